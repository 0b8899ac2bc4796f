"""[91]: FANS, their SIGNS and BRACKETS."""

import itertools
import math
import unittest

from bodybars.errors import BadFan, BadFrame, BadPlacement, NotSquare, TooGreat
from bodybars.fans import brackets, fan_fault, fan_sign, fan_sum, fans
from bodybars.pures import pure
from tests.helper import STRANGE, Spiteful, draw_placement, drawn
from tests.squarehelp import (
    NOT_SQUARE, TRIANGLE, all_ends, all_rows, draw_square, placed_squares, slow_determinant, slow_sign, square_frames,
)

MOST = {1: 6, 3: 4, 6: 3}
PLACES = ((0, 0), (4, 1), (2, 7))


def slow_fans(frame):
    due = sorted(list(range(1, frame[1])) * frame[0])
    return [fan for fan in itertools.product(*all_ends(frame)) if sorted(fan) == due]


def slow_fan_sign(frame, fan):
    ends = all_ends(frame)
    order = [row for body in range(1, frame[1]) for row, its in enumerate(fan) if its == body]
    return slow_sign(order) * (-1) ** sum(body == pair[1] for body, pair in zip(fan, ends))


def slow_brackets(frame, placement, fan):
    rows = all_rows(frame, placement)
    return tuple(
        slow_determinant([row for row, its in zip(rows, fan) if its == body]) for body in range(1, frame[1])
    )


class Fans(unittest.TestCase):
    def test_all_of_them(self):
        many = set()
        for frame in square_frames(570, 40, {1: 6, 3: 4, 6: 2}):
            told = fans(frame)
            self.assertEqual(list(told), slow_fans(frame) if frame[1] > 1 else [()])
            self.assertEqual(list(told), sorted(told))
            many.add(len(told))
            for fan in told[:20]:
                self.assertIsNone(fan_fault(frame, fan))
                self.assertEqual(fan_sign(frame, fan), slow_fan_sign(frame, fan))
        self.assertGreater(len(many), 3)

    def test_three_bodies_of_space(self):
        rng = drawn(571)
        for _ in range(3):
            frame = draw_square(rng, 6, 3)
            told = fans(frame)
            self.assertEqual(len(set(told)), len(told))
            for fan in told:
                self.assertEqual([fan.count(body) for body in range(3)], [0, 6, 6])
        frame = (6, 3, (("weld", 1, 2), ("weld", 1, 2)))
        self.assertEqual(len(fans(frame)), math.comb(12, 6))

    def test_the_sum_is_pure(self):
        seen = set()
        for frame, placement in placed_squares(572, 20, MOST):
            told = fan_sum(frame, placement)
            self.assertEqual(told, pure(frame, placement))
            due = 0
            for fan in fans(frame)[:200]:
                rows = brackets(frame, placement, fan)
                self.assertEqual(rows, slow_brackets(frame, placement, fan))
                due += slow_fan_sign(frame, fan) * math.prod(rows)
            if len(fans(frame)) <= 200:
                self.assertEqual(told, due)
            seen.add((frame[0], told != 0))
        self.assertEqual(len(seen), 6)

    def test_the_triangle(self):
        # The rows of the pins between 0 and 1, 1 and 2, 0 and 2: the first ones go to 1, the last ones to 2.
        self.assertEqual(fans(TRIANGLE), ((1, 1, 1, 2, 2, 2), (1, 1, 2, 1, 2, 2)))
        self.assertEqual(fan_sign(TRIANGLE, (1, 1, 1, 2, 2, 2)), -1)
        self.assertEqual(fan_sign(TRIANGLE, (1, 1, 2, 1, 2, 2)), 1)
        self.assertEqual(fans((3, 1, ())), ((),))
        self.assertEqual(fan_sign((3, 1, ()), ()), 1)
        self.assertEqual(brackets((3, 1, ()), (), ()), ())
        self.assertEqual(fan_sum((3, 1, ()), ()), 1)
        self.assertEqual(fans((3, 3, (("weld", 0, 1), ("weld", 0, 1)))), ())
        self.assertEqual(fan_sum((3, 3, (("weld", 0, 1), ("weld", 0, 1))), ((), ())), 0)

    def test_bounds(self):
        for dimension, most in MOST.items():
            chain = tuple(("weld", body, body + 1) for body in range(most))
            fits, beyond = (dimension, most, chain[:-1]), (dimension, most + 1, chain)
            self.assertEqual(len(fans(fits)), 1)
            self.assertEqual(fan_sum(fits, ((),) * (most - 1)), pure(fits, ((),) * (most - 1)))
            for call in (fans, lambda frame: fan_sum(frame, ((),) * most)):
                with self.assertRaises(TooGreat) as caught:
                    call(beyond)
                self.assertEqual(caught.exception.most, most)
            fan = tuple(body + 1 for body in range(most) for _ in range(dimension))
            self.assertIsNone(fan_fault(beyond, fan))
            self.assertIn(fan_sign(beyond, fan), (1, -1))
            self.assertEqual(brackets(beyond, ((),) * most, fan), (1,) * most)


class Faults(unittest.TestCase):
    def check(self, value, fault):
        self.assertEqual(fan_fault(TRIANGLE, value), fault)
        if fault is None:
            return
        for call in (lambda: fan_sign(TRIANGLE, value), lambda: brackets(TRIANGLE, PLACES, value)):
            with self.assertRaises(BadFan) as caught:
                call()
            self.assertEqual(caught.exception.place, fault)

    def test_fans_that_are_bent(self):
        good = (1, 1, 1, 2, 2, 2)
        self.check(good, None)
        for value in STRANGE + (0, (), good[:5], good + (2,), [*good]):
            self.check(value, -1)
        for body in STRANGE + (0, -1, 3, 10 ** 999, (1,)):
            for at in range(6):
                self.check(good[:at] + (body,) + (None,) * (5 - at), at)
        self.check((2, 1, 1, 2, 2, 2), 0)
        self.check((1, 1, 1, 1, 2, 2), 3)
        self.check((1, 1, 2, 2, 2, 1), 5)
        self.check((1, 1, 2, 2, 2, 2), 5)
        self.check((1, 1, 1, 2, 1, 2), 4)
        self.check((1, 1, 1, 2, 2, Spiteful()), 5)

    def test_each_row_bent(self):
        rng = drawn(575)
        for frame in square_frames(576, 8, MOST):
            told = fans(frame)
            for fan in told[:3]:
                ends = all_ends(frame)
                for at in range(len(fan)):
                    body = rng.randrange(-1, frame[1] + 1)
                    bent = fan[:at] + (body,) + fan[at + 1:]
                    due = None
                    for row, its in enumerate(bent):
                        if its not in ends[row] or its == 0 or bent[:row].count(its) >= frame[0]:
                            due = row
                            break
                    self.assertEqual(fan_fault(frame, bent), due)
                    self.assertEqual(due is None, bent in told)

    def test_errors_in_their_order(self):
        calls = (fans, lambda frame: fan_fault(frame, Spiteful()), lambda frame: fan_sign(frame, None))
        placed = (lambda *args: brackets(*args, None), fan_sum)
        for call in calls:
            with self.assertRaises(BadFrame):
                call((3, 2, [1]))
        for call in placed:
            with self.assertRaises(BadFrame):
                call((3, 2, [1]), None)
            for placement, fault in ((None, -1), ((PLACES[0], Spiteful(), None), 1)):
                with self.assertRaises(BadPlacement) as caught:
                    call(TRIANGLE, placement)
                self.assertEqual(caught.exception.number, fault)
        for frame, rows, due in NOT_SQUARE:
            for call in [*calls, *[lambda frame, call=call: call(frame, draw_placement(drawn(1), frame)) for call in placed]]:
                if rows != due:
                    with self.assertRaises(NotSquare) as caught:
                        call(frame)
                    self.assertEqual((caught.exception.rows, caught.exception.due), (rows, due))
            for call in placed:
                with self.assertRaises(BadPlacement):
                    call(frame, None)
        # Not SQUARE, and with too many bodies.
        for call in (fans, lambda frame: fan_sum(frame, ())):
            with self.assertRaises(NotSquare):
                call((1, 7, ()))
