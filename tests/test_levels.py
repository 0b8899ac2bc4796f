"""[47]: level PACKINGS."""

import unittest

from bodybars.errors import BadFrame, BadPacking
from bodybars.levels import is_level, leveled
from bodybars.woods import greatest_packing
from tests.helper import FRAMES, draw_frames, draw_packing, draw_stuck_packing, drawn, slow_is_packing


class Levels(unittest.TestCase):
    def sizes(self, frame, packing):
        return [sum(number in row for row in packing) for number in range(frame[0])]

    def test_examples(self):
        frame = (3, 4, (("bar", 0, 1), ("bar", 1, 2), ("bar", 2, 3)))
        self.assertIs(is_level(frame, ((0,), (0,), (0,))), False)
        self.assertIs(is_level(frame, ((0,), (0,), (1,))), False)
        self.assertIs(is_level(frame, ((0,), (2,), (1,))), True)
        self.assertIs(is_level(frame, ((2,), (1,), ())), True)
        self.assertIs(is_level(frame, ((), (), ())), True)
        self.assertEqual(sorted(leveled(frame, ((0,), (0,), (0,)))), [(0,), (1,), (2,)])
        self.assertEqual(leveled((6, 1, ()), ()), ())
        self.assertIs(is_level((1, 4, (("bar", 0, 1), ("bar", 1, 2))), ((0,), (0,))), True)

    def test_drawn_ones(self):
        rng = drawn(57)
        for frame in FRAMES + tuple(draw_frames(58, 120, 8, 15)):
            for packing in (draw_packing(rng, frame), draw_stuck_packing(rng, frame), greatest_packing(frame, numbers=1)):
                sizes = self.sizes(frame, packing)
                self.assertIs(is_level(frame, packing), max(sizes) - min(sizes) <= 1)
                told = leveled(frame, packing)
                self.assertTrue(slow_is_packing(frame, told))
                self.assertEqual([len(row) for row in told], [len(row) for row in packing])
                sizes = self.sizes(frame, told)
                self.assertLessEqual(max(sizes) - min(sizes), 1)
                self.assertIs(is_level(frame, told), True)

    def test_errors_in_their_order(self):
        for function in (is_level, leveled):
            with self.assertRaises(BadFrame):
                function(None, None)
            with self.assertRaises(BadPacking) as caught:
                function((3, 2, (("pin", 0, 1),)), ((0, 0),))
            self.assertEqual(caught.exception.place, (0, 1))
