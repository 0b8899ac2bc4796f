"""[40]: woods, ways and TALLIES of PACKINGS."""

import unittest

from bodybars.errors import BadFrame, BadJoint, BadNumber, BadPacking
from bodybars.woodways import tally_of, way_in, wood_sizes
from tests.helper import FRAMES, STRANGE, draw_frames, draw_packing, drawn, slow_way

FRAME = (3, 5, (("bar", 0, 4), ("pin", 0, 1), ("pin", 1, 2), ("pin", 2, 3), ("weld", 3, 4), ("bar", 1, 3)))
PACKING = ((), (0, 1), (0, 2), (0, 1), (0, 1), (2,))


class Ways(unittest.TestCase):
    def test_an_example(self):
        self.assertEqual(way_in(FRAME, PACKING, 0, 0), (1, 2, 3, 4))
        self.assertIsNone(way_in(FRAME, PACKING, 0, 1))
        self.assertIsNone(way_in(FRAME, PACKING, 0, 2))
        self.assertEqual(way_in(FRAME, PACKING, 5, 0), (2, 3))
        self.assertEqual(way_in(FRAME, PACKING, 5, 2), (5,))
        self.assertIsNone(way_in(FRAME, PACKING, 5, 1))
        self.assertEqual(way_in(FRAME, PACKING, 3, 2), (2, 5))
        self.assertEqual(way_in(FRAME, PACKING, 2, 0), (2,))

    def test_the_order_is_from_a_to_b(self):
        frame = (1, 4, (("bar", 2, 3), ("bar", 0, 3), ("bar", 1, 2), ("bar", 0, 1)))
        self.assertEqual(way_in(frame, ((0,), (0,), (0,), ()), 3, 0), (1, 0, 2))
        self.assertEqual(way_in(frame, ((0,), (0,), (), (0,)), 2, 0), (3, 1, 0))

    def test_drawn_ones(self):
        rng = drawn(34)
        for frame in FRAMES + tuple(draw_frames(35, 80, 8, 15)):
            packing = draw_packing(rng, frame)
            for joint in range(len(frame[2])):
                for number in range(frame[0]):
                    self.assertEqual(way_in(frame, packing, joint, number), slow_way(frame, packing, joint, number))
            self.assertEqual(tally_of(frame, packing), tuple(map(len, packing)))
            told = tuple(sum(number in row for row in packing) for number in range(frame[0]))
            self.assertEqual(wood_sizes(frame, packing), told)

    def test_tallies_and_sizes(self):
        self.assertEqual(tally_of(FRAME, PACKING), (0, 2, 2, 2, 2, 1))
        self.assertEqual(wood_sizes(FRAME, PACKING), (4, 3, 2))
        self.assertEqual(wood_sizes((6, 1, ()), ()), (0,) * 6)
        self.assertEqual(tally_of((6, 1, ()), ()), ())

    def test_errors_in_their_order(self):
        for function in (tally_of, wood_sizes, lambda frame, packing: way_in(frame, packing, None, None)):
            with self.assertRaises(BadFrame):
                function(None, None)
            for value, place in ((None, ()), (((0, 0),) * 6, (0,)), (((0,), (0,), (0,), (0,), (0,), ()), (4, 0))):
                with self.assertRaises(BadPacking) as caught:
                    function(FRAME, value)
                self.assertEqual(caught.exception.place, place)
        for joint in STRANGE + (-1, 6, (0,), 10 ** 999):
            with self.assertRaises(BadJoint) as caught:
                way_in(FRAME, PACKING, joint, None)
            self.assertIs(caught.exception.value, joint)
        for number in STRANGE + (-1, 3, (0,), 10 ** 999):
            with self.assertRaises(BadNumber) as caught:
                way_in(FRAME, PACKING, 5, number)
            self.assertIs(caught.exception.value, number)
        with self.assertRaises(BadJoint):
            way_in((3, 1, ()), (), 0, 0)
