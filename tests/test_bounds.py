"""[12], [41]: CROSSING and BOUND(K)."""

import unittest

from bodybars.bounds import bound_of, crossing_of
from bodybars.errors import BadFrame, BadNumber, BadParting
from tests.helper import STRANGE, Spiteful, draw_frames, draw_parting, drawn, slow_bound

FRAME = (3, 4, (("pin", 0, 1), ("bar", 1, 2), ("weld", 2, 3), ("bar", 0, 3)))


class Bounds(unittest.TestCase):
    def test_an_example(self):
        self.assertEqual(crossing_of(FRAME, (0, 1, 2, 3)), 7)
        self.assertEqual(crossing_of(FRAME, (0, 0, 0, 0)), 0)
        self.assertEqual(crossing_of(FRAME, (0, 0, 1, 1)), 2)
        self.assertEqual(bound_of(FRAME, (0, 0, 1, 1)), 2 + 3 * 2)
        self.assertEqual(bound_of(FRAME, (0, 0, 1, 1), numbers=None), 8)
        for numbers in range(4):
            self.assertEqual(bound_of(FRAME, (0, 0, 1, 1), numbers=numbers), 2 + 2 * numbers)
            self.assertEqual(bound_of(FRAME, (0, 1, 2, 3), numbers=numbers), 7)
            self.assertEqual(bound_of(FRAME, (0, 0, 0, 0), numbers=numbers), 3 * numbers)

    def test_drawn_ones(self):
        rng = drawn(32)
        for frame in draw_frames(33, 80, 8, 40):
            parting = draw_parting(rng, frame[1])
            self.assertEqual(crossing_of(frame, parting), slow_bound(frame, parting, 0))
            self.assertEqual(bound_of(frame, parting), slow_bound(frame, parting, frame[0]))
            for numbers in range(frame[0] + 1):
                self.assertEqual(bound_of(frame, parting, numbers=numbers), slow_bound(frame, parting, numbers))

    def test_errors_in_their_order(self):
        for function in (crossing_of, bound_of):
            with self.assertRaises(BadFrame):
                function(None, None)
            for parting, place in ((None, -1), ((0, 0, 0), -1), ((0, 0, 2, 0), 2), ((0,) * 8, -1)):
                with self.assertRaises(BadParting) as caught:
                    function(FRAME, parting)
                self.assertEqual(caught.exception.place, place)
        with self.assertRaises(BadFrame):
            bound_of(None, None, numbers=True)
        with self.assertRaises(BadParting):
            bound_of(FRAME, None, numbers=True)

    def test_numbers(self):
        for value in tuple(value for value in STRANGE if value is not None) + (-1, 4, 10 ** 999, (), Spiteful()):
            with self.assertRaises(BadNumber) as caught:
                bound_of(FRAME, (0, 0, 0, 0), numbers=value)
            self.assertIs(caught.exception.value, value)
        with self.assertRaises(TypeError):
            bound_of(FRAME, (0, 0, 0, 0), 2)
