"""[90], [93], [94], [98]: PURE and HINGE WEIGHTS."""

import itertools
import math
import unittest

from bodybars.errors import BadBody, BadFrame, BadPlacement, NotSquare, TooGreat
from bodybars.made import placement_of_packing
from bodybars.maps import moved_placement
from bodybars.placed import left_at
from bodybars.pures import hinge_weight, pure, pure_held
from bodybars.renamings import renamed
from bodybars.specials import special_paper
from bodybars.woods import free_of, greatest_packing
from tests.helper import STRANGE, Spiteful, draw_frames, draw_placement, drawn, slow_rows
from tests.squarehelp import (
    NOT_SQUARE, TRIANGLE, all_rows, draw_square, placed_squares, slow_determinant, slow_pure, slow_sign, square_frames,
    stiff_square_frames,
)

PLACES = ((0, 0), (4, 1), (2, 7))


class Pure(unittest.TestCase):
    def test_by_determinants(self):
        words = set()
        for frame, placement in placed_squares(530, 25):
            told = pure(frame, placement)
            self.assertEqual(told, slow_pure(frame, placement))
            self.assertIs(type(told), int)
            for body in range(frame[1]):
                held = pure_held(frame, placement, body)
                self.assertEqual(held, slow_pure(frame, placement, body))
                self.assertEqual(held, told * (-1) ** (frame[0] * body))
            words.add((frame[0], told == 0))
        self.assertEqual(len(words), 6)

    def test_without_rows(self):
        for dimension in (1, 3, 6):
            self.assertEqual(pure((dimension, 1, ()), ()), 1)
            self.assertEqual(pure_held((dimension, 1, ()), (), 0), 1)

    def test_0_exactly_where_motions_are_left(self):
        special = 0
        for frame, placement in placed_squares(532, 40, {1: 5, 3: 5, 6: 3}):
            told = pure(frame, placement)
            self.assertEqual(told == 0, left_at(frame, placement) != 0)
            if free_of(frame) != 0:
                self.assertEqual(told, 0)
            else:
                # [55]: there is a SPECIAL PAPER exactly at those placements.
                self.assertEqual(told == 0, special_paper(frame, placement) is not None)
                special += told == 0
        self.assertGreater(special, 5)

    def test_at_the_placement_of_a_greatest_packing(self):
        told = set()
        for frame in stiff_square_frames(534, 40):
            number = pure(frame, placement_of_packing(frame, greatest_packing(frame)))
            self.assertIn(number, (1, -1))
            told.add((frame[0], number))
        self.assertEqual(len(told), 6)

    def test_few_frames(self):
        rng = drawn(535)
        for dimension in (1, 3, 6):
            for _ in range(10):
                frame = draw_square(rng, dimension, 2)
                placement = draw_placement(rng, frame)
                rows = all_rows(frame, placement)
                self.assertEqual(pure(frame, placement), (-1) ** dimension * slow_determinant(rows))
        self.assertEqual(abs(pure(TRIANGLE, PLACES)), 4 * 7 - 1 * 2)
        self.assertEqual(pure(TRIANGLE, ((0, 0), (1, 1), (3, 3))), 0)
        bars = (3, 2, (("bar", 0, 1),) * 3)
        self.assertEqual(pure(bars, (((0, 0), (1, 1)), ((0, 2), (2, 0)), ((1, 5), (1, 9)))), 0)
        self.assertEqual(pure(bars, (((0, 0), (1, 1)), ((0, 2), (1, 3)), ((1, 5), (3, 7)))), 0)
        self.assertNotEqual(pure(bars, (((0, 0), (1, 1)), ((0, 2), (2, 0)), ((2, 5), (2, 9)))), 0)
        mixed = (3, 2, (("pin", 0, 1), ("bar", 0, 1)))
        self.assertEqual(pure(mixed, ((1, 2), ((0, 0), (2, 4)))), 0)
        self.assertNotEqual(pure(mixed, ((1, 2), ((0, 0), (2, 5)))), 0)

    def test_great_places(self):
        far = 10 ** 9
        self.assertEqual(abs(pure(TRIANGLE, ((-far, -far), (far, -far), (0, far)))), 4 * far * far)

    def test_errors_in_their_order(self):
        for call in (lambda *args: pure_held(*args, None), pure, hinge_weight):
            with self.assertRaises(BadFrame):
                call((3, 2, [1]), None)
            for placement, fault in ((None, -1), ((), -1), ((PLACES[0], Spiteful(), None), 1)):
                with self.assertRaises(BadPlacement) as caught:
                    call(TRIANGLE, placement)
                self.assertEqual(caught.exception.number, fault)
        for frame, rows, due in NOT_SQUARE:
            for call in (lambda *args: pure_held(*args, None), pure):
                with self.assertRaises(BadPlacement):
                    call(frame, None)
                if rows != due:
                    with self.assertRaises(NotSquare) as caught:
                        call(frame, draw_placement(drawn(1), frame))
                    self.assertEqual((caught.exception.rows, caught.exception.due), (rows, due))
        for body in STRANGE + (-1, 3, 10 ** 999, (0,)):
            with self.assertRaises(BadBody) as caught:
                pure_held(TRIANGLE, PLACES, body)
            self.assertIs(caught.exception.value, body)


def slow_weight(frame, placement):
    weight = 1
    for (kind, _, _), thing in zip(frame[2], placement):
        if kind == "hinge":
            line = slow_rows(6, "bar", thing)[0]
            row = line[3:] + line[:3]
            place = next(at for at in (3, 4, 5) if row[at])
            weight *= row[place] ** 4 * (-1) ** (place == 4)
    return weight


class Weights(unittest.TestCase):
    def test_weights(self):
        rng = drawn(540)
        for frame in draw_frames(541, 30, 4, 6):
            placement = draw_placement(rng, frame, rng.choice((1, 1, 3)))
            self.assertEqual(hinge_weight(frame, placement), slow_weight(frame, placement))
            if frame[0] != 6:
                self.assertEqual(hinge_weight(frame, placement), 1)

    def test_examples(self):
        frame = (6, 2, (("hinge", 0, 1),))
        for way, weight in (((2, 5, 7), 16), ((-2, 0, 0), 16), ((0, 3, 5), -81), ((0, -1, 0), -1), ((0, 0, 5), 625)):
            place = (4, 5, 6)
            end = tuple(a + b for a, b in zip(place, way))
            self.assertEqual(hinge_weight(frame, ((place, end),)), weight)
        two = (6, 3, (("hinge", 0, 1), ("bar", 0, 1), ("hinge", 1, 2)))
        axes = (((0, 0, 0), (0, 1, 0)), ((0, 0, 0), (0, 9, 0)), ((0, 0, 0), (0, 2, 0)))
        self.assertEqual(hinge_weight(two, axes), 16)
        self.assertEqual(hinge_weight((6, 1, ()), ()), 1)


def draw_map(rng, width):
    while True:
        rows = tuple(tuple(rng.randint(-2, 2) for _ in range(width)) for _ in range(width))
        if slow_determinant(rows) != 0:
            return (rows, tuple(rng.randint(-5, 5) for _ in range(width)))


class Changed(unittest.TestCase):
    def test_maps(self):
        rng = drawn(545)
        seen = set()
        for frame, placement in placed_squares(546, 30, {1: 1, 3: 4, 6: 4}):
            if frame[0] == 1:
                continue
            change = draw_map(rng, 2 if frame[0] == 3 else 3)
            try:
                moved = moved_placement(frame, placement, change)
            except TooGreat:
                continue
            turn = slow_determinant(change[0])
            kinds = [joint[0] for joint in frame[2]]
            pins, hinges, welds = map(kinds.count, ("pin", "hinge", "weld"))
            old, new = pure(frame, placement), pure(frame, moved)
            if frame[0] == 3:
                self.assertEqual(new, old * turn ** (2 * (frame[1] - 1) - pins - 2 * welds))
            else:
                power = 3 * (frame[1] - 1) - 2 * hinges - 3 * welds
                self.assertEqual(
                    new * hinge_weight(frame, placement) * turn ** max(0, -power),
                    old * turn ** max(0, power) * hinge_weight(frame, moved),
                )
            seen.add((frame[0], old != 0, turn > 0))
        self.assertEqual(len(seen), 8)

    def test_exchanged_ends(self):
        changed = 0
        for frame, placement in placed_squares(550, 80, {1: 4, 3: 4, 6: 4}):
            old = pure(frame, placement)
            for at, (kind, _, _) in enumerate(frame[2]):
                if frame[0] != 1 and kind in ("bar", "hinge"):
                    turned = placement[:at] + (placement[at][::-1],) + placement[at + 1:]
                    self.assertEqual(pure(frame, turned), -old)
                    changed += old != 0
        self.assertGreater(changed, 20)

    def test_joints_in_another_order(self):
        rng = drawn(555)
        for frame, placement in placed_squares(556, 20):
            order = rng.sample(range(len(frame[2])), len(frame[2]))
            starts = list(itertools.accumulate([len(slow_rows(frame[0], j[0], t)) for j, t in zip(frame[2], placement)], initial=0))
            rows = [row for joint in order for row in range(starts[joint], starts[joint + 1])]
            changed = (*frame[:2], tuple(frame[2][joint] for joint in order))
            moved = tuple(placement[joint] for joint in order)
            self.assertEqual(pure(changed, moved), pure(frame, placement) * slow_sign(rows))

    def test_renamed_bodies(self):
        rng = drawn(560)
        for frame, placement in placed_squares(561, 25):
            bodies = tuple(rng.sample(range(frame[1]), frame[1]))
            changed = renamed(frame, (bodies, tuple(range(len(frame[2])))))
            sign = slow_sign(bodies) ** frame[0]
            for kind, a, b in frame[2]:
                if bodies[a] > bodies[b]:
                    sign *= (-1) ** len(slow_rows(frame[0], kind, ((0, 0, 1), (1, 0, 0))) if frame[0] == 6 else (
                        [0] * {"bar": 1, "pin": 2, "weld": frame[0]}[kind]))
            self.assertEqual(pure(changed, placement), sign * pure(frame, placement))

    def test_frames_that_are_not_stiff(self):
        for frame in square_frames(565, 20, {1: 4, 3: 4, 6: 3}):
            placement = draw_placement(drawn(566), frame)
            if free_of(frame):
                self.assertEqual(pure(frame, placement), 0)
        self.assertEqual(math.prod(()), pure((3, 1, ()), ()))
