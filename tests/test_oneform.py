"""[36]: the ONE FORM and SYMMETRIES."""

import itertools
import math
import unittest

from bodybars.errors import BadFrame
from bodybars.oneform import like_renaming, one_form
from bodybars.renamings import renamed, renaming_fault
from bodybars.symmetries import symmetries
from tests.helper import FRAMES, KINDS, draw_frames, draw_renaming, drawn


def cell(frame, one, other):
    return tuple(sorted(kind for kind, a, b in frame[2] if {a, b} == {one, other}))


def table(frame, numbering):
    return tuple(
        tuple(cell(frame, numbering[later], numbering[ahead]) for ahead in range(later))
        for later in range(1, frame[1])
    )


def slow_form(frame):
    """The ONE FORM, its RENAMING and SYMMETRIES, by all NUMBERINGS."""
    tables = {numbering: table(frame, numbering) for numbering in itertools.permutations(range(frame[1]))}
    best = [numbering for numbering, told in tables.items() if told == max(tables.values())]
    bodies = tuple(min(best).index(body) for body in range(frame[1]))
    keys = []
    for old, (kind, a, b) in enumerate(frame[2]):
        low, high = sorted((bodies[a], bodies[b]))
        keys.append((high, low, kind, old))
    joints = tuple((kind, low, high) for high, low, kind, _ in sorted(keys))
    return ((frame[0], frame[1], joints), (bodies, tuple(key[3] for key in sorted(keys)))), len(best)


class OneForm(unittest.TestCase):
    def test_an_example(self):
        frame = (3, 3, (("bar", 0, 2), ("pin", 1, 2), ("bar", 1, 2), ("bar", 0, 2)))
        form = (3, 3, (("bar", 0, 1), ("pin", 0, 1), ("bar", 0, 2), ("bar", 0, 2)))
        self.assertEqual(cell(frame, 1, 2), ("bar", "pin"))
        told, (bodies, order) = one_form(frame)
        self.assertEqual(told, form)
        self.assertEqual((bodies, order), ((2, 1, 0), (2, 1, 0, 3)))

    def test_by_all_numberings(self):
        rng = drawn(12)
        small = [frame for frame in FRAMES if frame[1] <= 5]
        for frame in [*small, *draw_frames(13, 60, 5, 7)]:
            (form, renaming), many = slow_form(frame)
            self.assertEqual(one_form(frame), (form, renaming))
            self.assertEqual(symmetries(frame), many)
            self.assertIsNone(renaming_fault(frame, renaming))
            self.assertEqual(renamed(frame, renaming), form)
            again = renamed(frame, draw_renaming(rng, frame))
            self.assertEqual(one_form(again)[0], form)
            self.assertEqual(symmetries(again), many)

    def test_greater_cells_come_first(self):
        # ("bar",) is less than ("bar", "bar"), which is less than ("pin",): the pin joins bodies 0 and 1.
        frame = (3, 4, (("bar", 0, 1), ("bar", 1, 2), ("bar", 1, 2), ("pin", 2, 3)))
        self.assertEqual(one_form(frame)[0], (3, 4, (("pin", 0, 1), ("bar", 0, 2), ("bar", 0, 2), ("bar", 2, 3))))

    def test_the_least_numbering_of_those_with_the_greatest_table(self):
        self.assertEqual(one_form((3, 4, ())), ((3, 4, ()), ((0, 1, 2, 3), ())))
        ring = (3, 4, (("pin", 1, 3), ("pin", 0, 2), ("pin", 0, 3), ("pin", 1, 2)))
        self.assertEqual(one_form(ring), slow_form(ring)[0])

    def test_large_frames_with_many_alike_bodies(self):
        for frame in (
            (6, 8, ()),
            (3, 8, tuple(("bar", one, other) for one in range(8) for other in range(one + 1, 8))),
        ):
            form, renaming = one_form(frame)
            self.assertEqual(renaming[0], tuple(range(8)))
            self.assertEqual(form[2], tuple(sorted(frame[2], key=lambda joint: (joint[2], joint[1]))))
            self.assertEqual(symmetries(frame), math.factorial(8))

    def test_large_drawn_frames(self):
        rng = drawn(14)
        for frame in draw_frames(15, 15, 8, 40):
            form, renaming = one_form(frame)
            self.assertEqual(renamed(frame, renaming), form)
            self.assertEqual(one_form(renamed(frame, draw_renaming(rng, frame)))[0], form)
            keys = [(other, one, kind) for kind, one, other in form[2]]
            self.assertEqual(keys, sorted(keys))
            self.assertEqual(one_form(form)[0], form)

    def test_like_renaming(self):
        rng = drawn(16)
        for frame in draw_frames(17, 40, 7, 12):
            other = renamed(frame, draw_renaming(rng, frame))
            told = like_renaming(frame, other)
            self.assertEqual(renamed(frame, told), other)
            self.assertIsNone(renaming_fault(frame, told))
        for frame in draw_frames(18, 20, 5, 6):
            changed = (frame[0], frame[1], frame[2] + (("bar", 0, 1),)) if frame[1] > 1 else (frame[0], 2, ())
            self.assertIsNone(like_renaming(frame, changed))
        self.assertIsNone(like_renaming((3, 2, (("bar", 0, 1),)), (6, 2, (("bar", 0, 1),))))
        self.assertEqual(like_renaming((3, 1, ()), (3, 1, ())), ((0,), ()))

    def test_like_renaming_keeps_alike_joints_in_their_order(self):
        frame = (3, 2, (("bar", 0, 1), ("pin", 0, 1), ("bar", 0, 1)))
        other = (3, 2, (("pin", 0, 1), ("bar", 0, 1), ("bar", 0, 1)))
        self.assertEqual(like_renaming(frame, other), ((0, 1), (1, 0, 2)))
        self.assertEqual(like_renaming(frame, frame), ((0, 1), (0, 1, 2)))

    def test_wrong_frames(self):
        bad, good = (3, 2, (("x", 0, 1),)), (3, 2, ())
        for call in (
            lambda: one_form(bad), lambda: symmetries(bad), lambda: like_renaming(good, bad),
            lambda: like_renaming(bad, None),
        ):
            with self.assertRaises(BadFrame) as caught:
                call()
            self.assertEqual((caught.exception.word, caught.exception.place), ("kind", (2, 0, 0)))


def ring(many):
    return [(body, (body + 1) % many) for body in range(many)] if many > 2 else [(0, 1)] * (many - 1)


def star(many):
    return [(0, body) for body in range(1, many)]


def copied(dimension, kind, many, parts):
    """A FRAME of parts, each a number of bodies and its pairs, side by side; the bodies behind them have no joints."""
    joints, first = [], 0
    for bodies, pairs in parts:
        joints.extend((kind, first + min(pair), first + max(pair)) for pair in pairs)
        first += bodies
    return (dimension, many, tuple(joints))


# Of parts: what stands side by side, of how many bodies, with how many SYMMETRIES in all.
ALIKE = [
    ([(bodies, make(bodies))] * copies, bodies * copies, math.factorial(copies) * own ** copies)
    for make, bodies, own in (
        (ring, 2, 2), (ring, 3, 6), (ring, 4, 8), (ring, 5, 10), (ring, 8, 16), (star, 3, 2), (star, 4, 6), (star, 8, 5040),
    )
    for copies in range(1, 8 // bodies + 1)
]


class Alike(unittest.TestCase):
    def test_eight_bodies_without_joints_or_with_a_bar_between_each_two(self):
        for dimension in (1, 3, 6):
            self.assertEqual(symmetries((dimension, 8, ())), 40320)
            frame = (dimension, 8, tuple(("bar", one, other) for one, other in itertools.combinations(range(8), 2)))
            self.assertEqual(symmetries(frame), 40320)
            self.assertEqual(one_form(frame)[1][0], tuple(range(8)))
            self.assertEqual(like_renaming(frame, frame), (tuple(range(8)), tuple(range(28))))

    def test_copies_of_rings_and_stars(self):
        rng = drawn(351)
        for parts, bodies, own in ALIKE:
            for many in range(bodies, 9):
                for dimension, kinds in KINDS.items():
                    frame = copied(dimension, rng.choice(kinds), many, parts)
                    self.assertEqual(symmetries(frame), own * math.factorial(many - bodies))
                    form, renaming = one_form(frame)
                    self.assertEqual(renamed(frame, renaming), form)
                    again = renamed(frame, draw_renaming(rng, frame))
                    self.assertEqual(one_form(again)[0], form)
                    self.assertEqual(symmetries(again), symmetries(frame))
                    self.assertEqual(renamed(frame, like_renaming(frame, again)), again)

    def test_unlike_copies(self):
        frame = copied(3, "pin", 8, [(3, ring(3)), (3, star(3))])
        self.assertEqual(symmetries(frame), 6 * 2 * 2)
        other = (3, 8, frame[2][:-1] + (("bar",) + frame[2][-1][1:],))
        self.assertEqual(symmetries(other), 6 * 2)
        self.assertIsNone(like_renaming(frame, other))

    def test_by_all_numberings(self):
        rng = drawn(352)
        for parts, bodies, _ in ALIKE:
            for many in range(bodies, 7):
                frame = copied(6, rng.choice(KINDS[6]), many, parts)
                for told in (frame, renamed(frame, draw_renaming(rng, frame))):
                    due, number = slow_form(told)
                    self.assertEqual(one_form(told), due)
                    self.assertEqual(symmetries(told), number)

    def test_twins_that_are_joined_and_twins_that_are_not(self):
        for joints in (
            (("bar", 0, 3), ("bar", 1, 3), ("pin", 2, 3)), (("bar", 0, 1), ("pin", 0, 2), ("pin", 1, 2)),
            (("pin", 0, 4), ("pin", 1, 4), ("bar", 0, 1), ("weld", 2, 3)), (("bar", 0, 1), ("bar", 2, 3), ("pin", 1, 2)),
            (("bar", 1, 4), ("bar", 0, 4), ("bar", 1, 3), ("bar", 0, 3), ("pin", 2, 3)), (("bar", 0, 4), ("bar", 1, 3)),
        ):
            frame = (3, 5, joints)
            for bodies in itertools.permutations(range(5)):
                told = renamed(frame, (bodies, tuple(range(len(joints)))))
                due, number = slow_form(told)
                self.assertEqual(one_form(told), due)
                self.assertEqual(symmetries(told), number)

    def test_a_long_row_of_calls(self):
        rng = drawn(353)
        for _ in range(40):
            for parts, bodies, own in ALIKE:
                frame = copied(3, "bar", 8, parts)
                frame = renamed(frame, draw_renaming(rng, frame))
                self.assertEqual(symmetries(frame), own * math.factorial(8 - bodies))
                one_form(frame)


class Symmetries(unittest.TestCase):
    def test_without_joints(self):
        for many in range(1, 9):
            self.assertEqual(symmetries((3, many, ())), math.factorial(many))

    def test_rings(self):
        for many in range(3, 9):
            joints = tuple(("bar", body, body + 1) for body in range(many - 1)) + (("bar", 0, many - 1),)
            self.assertEqual(symmetries((6, many, joints)), 2 * many)

    def test_two_copies(self):
        for dimension, kinds in KINDS.items():
            one = tuple((kinds[0], body, body + 1) for body in range(3))
            two = tuple((kinds[0], body + 4, body + 5) for body in range(3))
            self.assertEqual(symmetries((dimension, 8, one + two)), 8)
            unlike = two[:2] + ((kinds[1], 6, 7),)
            self.assertEqual(symmetries((dimension, 8, one + unlike)), 2)

    def test_of_renamings_that_leave_the_frame_the_same(self):
        for frame in draw_frames(19, 30, 4, 5):
            many = 0
            for bodies in itertools.permutations(range(frame[1])):
                told = renamed(frame, (bodies, tuple(range(len(frame[2])))))
                many += sorted(told[2]) == sorted(frame[2])
            self.assertEqual(symmetries(frame), many)
