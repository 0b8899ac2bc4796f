"""[117], [118]: LEAST STIFF FRAMES, thinned ones, LEAST STIFF CLASSES, rings."""

import itertools
import unittest

from bodybars.errors import BadDimension, BadFrame, BadNumber, BadOrder, NotStiff
from bodybars.leastframes import is_least_stiff, least_classes, thinned
from bodybars.oneform import one_form
from bodybars.woods import free_of
from tests.helper import FRAMES, KINDS, SIZE, STRANGE, draw_frames, drawn, slow_rank_of, slow_without

BARS = (3, 2, (("bar", 0, 1),) * 5)


def is_stiff(frame):
    return slow_rank_of(frame) == frame[0] * (frame[1] - 1)


def slow_is_least(frame):
    return is_stiff(frame) and not any(is_stiff(slow_without(frame, (joint,))) for joint in range(len(frame[2])))


def slow_thinned(frame, order):
    left = list(range(len(frame[2])))
    for joint in order:
        rest = [other for other in left if other != joint]
        if is_stiff((*frame[:2], tuple(frame[2][at] for at in rest))):
            left = rest
    return (*frame[:2], tuple(frame[2][at] for at in left))


def stiff_frames(seed, tries):
    for frame in draw_frames(seed, tries, 4, 9):
        if is_stiff(frame):
            yield frame


class Least(unittest.TestCase):
    def test_which_are_least_stiff(self):
        words = set()
        for frame in [*FRAMES[:10], *draw_frames(670, 80, 3, 5)]:
            if frame[1] <= 5:
                good = slow_is_least(frame)
                self.assertIs(is_least_stiff(frame), good)
                words.add((frame[0], good))
                if good:
                    self.assertLessEqual(len(frame[2]), frame[0] * (frame[1] - 1))
        self.assertEqual(len(words), 6)
        self.assertIs(is_least_stiff((6, 1, ())), True)
        self.assertIs(is_least_stiff((6, 2, ())), False)
        self.assertIs(is_least_stiff((3, 2, (("pin", 0, 1), ("pin", 0, 1)))), True)
        self.assertIs(is_least_stiff((3, 2, (("weld", 0, 1), ("bar", 0, 1)))), False)

    def test_thinned_in_drawn_orders(self):
        rng = drawn(671)
        seen = set()
        for frame in stiff_frames(672, 60):
            for _ in range(2):
                order = tuple(rng.sample(range(len(frame[2])), len(frame[2])))
                told = thinned(frame, order)
                self.assertEqual(told, slow_thinned(frame, order))
                self.assertIs(is_least_stiff(told), True)
                seen.add((frame[0], told == frame))
        self.assertEqual(len(seen), 6)

    def test_examples(self):
        self.assertEqual(thinned(BARS, (4, 0, 1, 2, 3)), (3, 2, (("bar", 0, 1),) * 3))
        mixed = (3, 2, (("bar", 0, 1), ("pin", 0, 1), ("weld", 0, 1), ("pin", 0, 1)))
        self.assertEqual(thinned(mixed, (0, 1, 2, 3)), (3, 2, (("weld", 0, 1),)))
        self.assertEqual(thinned(mixed, (2, 1, 0, 3)), (3, 2, (("bar", 0, 1), ("pin", 0, 1))))
        self.assertEqual(thinned(mixed, (2, 0, 1, 3)), (3, 2, (("pin", 0, 1), ("pin", 0, 1))))
        self.assertEqual(thinned((1, 1, ()), ()), (1, 1, ()))

    def test_errors_in_their_order(self):
        loose = (3, 2, (("pin", 0, 1), ("bar", 0, 1)))[:2] + ((("pin", 0, 1),),)
        for call in (is_least_stiff, lambda frame: thinned(frame, None)):
            with self.assertRaises(BadFrame):
                call((3, 2, [1]))
        for order in STRANGE + (0, (), (0, 1, 2, 3), (0, 1, 2, 3, 3), (0, 1, 2, 3, 5), (-1, 1, 2, 3, 4), [4, 3, 2, 1, 0],
                                (0, True, 2, 3, 4), (0, 1, 2, 3, None)):
            with self.assertRaises(BadOrder) as caught:
                thinned(BARS, order)
            self.assertIs(caught.exception.value, order)
        with self.assertRaises(BadOrder):
            thinned(loose, ())
        for frame in (loose, (6, 3, ()), (3, 3, (("weld", 0, 1), ("bar", 1, 2)))):
            with self.assertRaises(NotStiff) as caught:
                thinned(frame, tuple(range(len(frame[2]))))
            self.assertEqual(caught.exception.free, free_of(frame))


def slow_classes(dimension, many, most):
    """The ONE FORMS of all LEAST STIFF FRAMES with at most so many joints."""
    pairs = list(itertools.combinations(range(many), 2))
    joints = [(kind, *pair) for kind in KINDS[dimension] for pair in pairs]
    forms = set()
    for number in range(most + 1):
        for row in itertools.combinations_with_replacement(joints, number):
            frame = (dimension, many, row)
            total = sum(SIZE[dimension][joint[0]] for joint in row)
            if total >= dimension * (many - 1) and slow_is_least(frame):
                forms.add(one_form(frame)[0])
    return tuple(sorted(forms))


class Classes(unittest.TestCase):
    def test_one_and_two_bodies(self):
        for dimension in (1, 3, 6):
            self.assertEqual(least_classes(dimension, 1), ((dimension, 1, ()),))
        joints = {
            1: (("bar",), ("weld",)),
            3: (("bar", "bar", "bar"), ("bar", "pin"), ("pin", "pin"), ("weld",)),
            6: (("bar",) * 6, ("bar", "hinge"), ("hinge", "hinge"), ("weld",)),
        }
        for dimension, rows in joints.items():
            due = tuple((dimension, 2, tuple((kind, 0, 1) for kind in row)) for row in rows)
            self.assertEqual(least_classes(dimension, 2), due)

    def test_against_all_frames(self):
        for dimension, many in ((1, 1), (3, 1), (6, 1), (1, 2), (3, 2), (6, 2), (1, 3), (3, 3)):
            self.assertEqual(least_classes(dimension, many), slow_classes(dimension, many, dimension * (many - 1)))

    def test_three_bodies_of_space(self):
        told = least_classes(6, 3)
        self.assertEqual(list(told), sorted(set(told)))
        for frame in told:
            self.assertEqual(one_form(frame)[0], frame)
            self.assertTrue(slow_is_least(frame))
            self.assertLessEqual(len(frame[2]), 12)
        # All with few joints are among them; so is what is left of any stiff frame.
        self.assertEqual([frame for frame in told if len(frame[2]) <= 4], list(slow_classes(6, 3, 4)))
        rng = drawn(675)
        found = set()
        for _ in range(400):
            pairs = [(0, 1), (0, 2), (1, 2)]
            row = tuple((rng.choice(KINDS[6] + ("bar",) * rng.choice((0, 9))), *rng.choice(pairs)) for _ in range(rng.randint(2, 18)))
            frame = (6, 3, row)
            if is_stiff(frame):
                left = thinned(frame, tuple(rng.sample(range(len(row)), len(row))))
                found.add(one_form(left)[0])
        self.assertLessEqual(found, set(told))
        self.assertGreater(len(found), 15)
        self.assertEqual(len(told), 34)

    def test_sums_of_sizes_tell_it(self):
        for dimension in (1, 3, 6):
            for frame in least_classes(dimension, 3):
                sums = [
                    sum(SIZE[dimension][joint[0]] for joint in frame[2] if joint[1:] == pair)
                    for pair in ((0, 1), (0, 2), (1, 2))
                ]
                self.assertGreaterEqual(sum(sums), 2 * dimension)
                self.assertGreaterEqual(sum(sums) - max(sums), dimension)

    def test_errors_in_their_order(self):
        for value in STRANGE + (0, 2, -1, 10 ** 999, (3,)):
            with self.assertRaises(BadDimension):
                least_classes(value, None)
        for value in STRANGE + (0, 4, -1, 10 ** 999, (3,)):
            with self.assertRaises(BadNumber) as caught:
                least_classes(3, value)
            self.assertIs(caught.exception.value, value)

    def test_rings(self):
        for many in range(3, 9):
            for dimension, kind, less in ((6, "hinge", 6), (3, "pin", 3)):
                joints = tuple((kind, *sorted((body, (body + 1) % many))) for body in range(many))
                self.assertEqual(free_of((dimension, many, joints)), max(0, many - less))
