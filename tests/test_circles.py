"""[65], [66]: lots that are free of stress, SURPLUS, CIRCLES, SPARINGS."""

import itertools
import unittest

from bodybars.circles import circle_in, is_circle, sparing, surplus
from bodybars.errors import BadFrame, BadLoss, BadOrder
from bodybars.losses import fall
from bodybars.woods import rank_of
from tests.helper import FRAMES, SIZE, STRANGE, Spiteful, draw_frames, drawn, slow_rank_of, slow_without
from tests.test_losses import FRAME, SMALL, all_losses

# Of [66]: the pins are the only CIRCLE.
PINS_AND_BAR = (3, 2, (("pin", 0, 1), ("bar", 0, 1), ("pin", 0, 1)))


def slow_surplus(frame, lot):
    others = [joint for joint in range(len(frame[2])) if joint not in lot]
    alone = slow_without(frame, others)
    return sum(SIZE[frame[0]][frame[2][joint][0]] for joint in lot) - slow_rank_of(alone)


def less(lot, joint):
    return tuple(other for other in lot if other != joint)


class Circles(unittest.TestCase):
    def test_examples(self):
        self.assertEqual(surplus(PINS_AND_BAR, (0, 1, 2)), 2)
        self.assertEqual(surplus(PINS_AND_BAR, (0, 2)), 1)
        self.assertEqual(surplus(PINS_AND_BAR, (0, 1)), 0)
        self.assertEqual(surplus(PINS_AND_BAR, ()), 0)
        self.assertEqual(circle_in(PINS_AND_BAR, (0, 1, 2)), (0, 2))
        self.assertIsNone(circle_in(PINS_AND_BAR, (0, 1)))
        self.assertIsNone(circle_in(PINS_AND_BAR, ()))
        bars = (1, 2, (("bar", 0, 1),) * 4)
        self.assertEqual(circle_in(bars, (0, 1, 2, 3)), (0, 1))
        self.assertEqual(circle_in(bars, (1, 3)), (1, 3))
        self.assertEqual(surplus(bars, (0, 1, 2, 3)), 3)

    def test_the_two_pins_and_the_bar(self):
        circles = [lot for lot in all_losses(PINS_AND_BAR) if is_circle(PINS_AND_BAR, lot)]
        self.assertEqual(circles, [(0, 2)])
        self.assertEqual(fall(PINS_AND_BAR, (1,)), 0)

    def test_against_ranks(self):
        seen = set()
        for frame in [*SMALL, *draw_frames(311, 40, 4, 7)]:
            table = {lot: slow_surplus(frame, lot) for lot in all_losses(frame)}
            for lot, number in table.items():
                self.assertEqual(surplus(frame, lot), number)
                due = number > 0 and all(table[less(lot, joint)] == 0 for joint in lot)
                self.assertIs(is_circle(frame, lot), due)
                left = None
                if number > 0:
                    left = lot
                    for joint in reversed(lot):
                        left = less(left, joint) if table[less(left, joint)] > 0 else left
                self.assertEqual(circle_in(frame, lot), left)
                if left is not None:
                    self.check_circle(frame, left, number=table[left])
                    seen.add((frame[0], table[left]))
        self.assertTrue({(1, 1), (3, 1), (3, 2), (6, 1)} <= seen)

    def check_circle(self, frame, lot, number):
        self.assertIs(is_circle(frame, lot), True)
        sizes = [SIZE[frame[0]][frame[2][joint][0]] for joint in lot]
        bodies = {body for joint in lot for body in frame[2][joint][1:]}
        self.assertEqual(sum(sizes), frame[0] * (len(bodies) - 1) + number)
        self.assertTrue(1 <= number <= min(sizes))

    def test_large_frames(self):
        for frame in [FRAMES[-2], FRAMES[-1], *draw_frames(312, 3, 8, 40)]:
            lot = tuple(range(len(frame[2])))
            told = circle_in(frame, lot)
            self.assertEqual(told is None, surplus(frame, lot) == 0)
            if told is not None:
                self.check_circle(frame, told, slow_surplus(frame, told) if frame[1] < 6 else surplus(frame, told))

    def test_values_of_any_kind(self):
        for lot in STRANGE + (0, (2, 0), (0, 3), (0, 0, 2), [0, 2], (False, 2), (0, 2, None), (-1, 2), (0, Spiteful())):
            self.assertIs(is_circle(PINS_AND_BAR, lot), False)
            for function in (surplus, circle_in):
                with self.assertRaises(BadLoss) as caught:
                    function(PINS_AND_BAR, lot)
                self.assertIs(caught.exception.value, lot)

    def test_frames_come_first(self):
        for function in (surplus, circle_in, is_circle, sparing):
            with self.assertRaises(BadFrame):
                function((3, 2, [1]), None)


class Sparing(unittest.TestCase):
    def test_examples(self):
        bars = (1, 2, (("bar", 0, 1),) * 3)
        self.assertEqual(sparing(bars, (0, 1, 2)), (0, 1))
        self.assertEqual(sparing(bars, (2, 0, 1)), (0, 2))
        self.assertEqual(sparing(PINS_AND_BAR, (0, 1, 2)), (0,))
        self.assertEqual(sparing(PINS_AND_BAR, (1, 0, 2)), (1,))
        self.assertEqual(sparing(FRAME, (3, 2, 1, 0)), (2,))
        self.assertEqual(sparing((6, 1, ()), ()), ())

    def test_each_order(self):
        for frame in [*SMALL, *draw_frames(313, 30, 3, 5)]:
            many = len(frame[2])
            if many > 5:
                continue
            for order in itertools.permutations(range(many)):
                gone = []
                for joint in order:
                    if fall(frame, tuple(sorted([*gone, joint]))) == 0:
                        gone.append(joint)
                self.assertEqual(sparing(frame, order), tuple(sorted(gone)))

    def test_what_is_left(self):
        rng = drawn(314)
        for frame in [*FRAMES, *draw_frames(315, 15, 8, 30)]:
            order = tuple(rng.sample(range(len(frame[2])), len(frame[2])))
            gone = sparing(frame, order)
            left = slow_without(frame, gone)
            self.assertEqual(rank_of(left), rank_of(frame))
            for joint in range(len(left[2])):
                self.assertGreater(fall(left, (joint,)), 0)
            if all(joint[0] == "bar" for joint in frame[2]):
                self.assertEqual(len(gone), len(frame[2]) - rank_of(frame))

    def test_wrong_orders(self):
        for order in STRANGE + (0, (), (0, 1, 2), (0, 1, 2, 2), (0, 1, 2, 4), (0, 1, 2, 3, 4), [0, 1, 2, 3], (0, True, 2, 3), (-1, 0, 1, 2)):
            with self.assertRaises(BadOrder) as caught:
                sparing(FRAME, order)
            self.assertIs(caught.exception.value, order)
        with self.assertRaises(BadOrder):
            sparing((3, 1, ()), (0,))
