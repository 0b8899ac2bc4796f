"""[51], [54]: RANK AT, LEFT, general and special PLACEMENTS."""

import itertools
import unittest

from bodybars.errors import BadFrame, BadPlacement
from bodybars.placed import is_general, left_at, rank_at
from bodybars.woods import free_of, rank_of
from tests.helper import FRAMES, draw_frames, placed_frames, slow_bound, slow_partings, slow_rank_at

SQUARE = (3, 4, (("pin", 0, 1), ("pin", 1, 2), ("pin", 2, 3), ("pin", 0, 3)))
THREE_BARS = (3, 2, (("bar", 0, 1),) * 3)


class Placed(unittest.TestCase):
    def check(self, frame, placement, rank, general):
        self.assertEqual(rank_at(frame, placement), rank)
        self.assertEqual(left_at(frame, placement), frame[0] * (frame[1] - 1) - rank)
        self.assertIs(is_general(frame, placement), general)

    def test_worked_out_by_hand(self):
        triangle = ((0, 0), (1, 0)), ((1, 0), (0, 1)), ((0, 1), (0, 0))
        self.check(THREE_BARS, triangle, 3, True)
        # Three lines through one point, three of one way, and three times one line.
        self.check(THREE_BARS, (((0, 0), (1, 0)), ((0, 0), (0, 1)), ((0, 0), (1, 1))), 2, False)
        self.check(THREE_BARS, (((0, 0), (1, 0)), ((0, 1), (1, 1)), ((0, 2), (1, 2))), 2, False)
        self.check(THREE_BARS, (((0, 0), (1, 0)), ((2, 0), (1, 0)), ((5, 0), (7, 0))), 1, False)
        self.check(SQUARE, ((0, 0), (1, 0), (1, 1), (0, 1)), 8, True)
        self.check(SQUARE, ((0, 0), (1, 0), (2, 0), (3, 0)), 7, False)
        self.check(SQUARE, ((0, 0), (0, 0), (0, 0), (0, 0)), 6, False)
        two = (6, 2, (("hinge", 0, 1), ("hinge", 0, 1)))
        self.check(two, (((0, 0, 0), (1, 0, 0)), ((0, 0, 0), (0, 1, 0))), 6, True)
        self.check(two, (((0, 0, 0), (1, 0, 0)), ((5, 0, 0), (-2, 0, 0))), 5, False)

    def test_the_line(self):
        frame = (1, 4, (("bar", 0, 1), ("weld", 0, 1), ("bar", 2, 3), ("bar", 1, 3)))
        self.check(frame, ((), (), (), ()), 3, True)
        self.check(frame[:2] + (frame[2][:2],), ((), ()), 1, True)
        for frame in draw_frames(171, 30, 8, 12):
            if frame[0] == 1:
                self.check(frame, ((),) * len(frame[2]), rank_of(frame), True)

    def test_without_joints_and_of_one_body(self):
        for dimension in (1, 3, 6):
            for many in (1, 5, 8):
                self.check((dimension, many, ()), (), 0, True)
                self.assertEqual(left_at((dimension, many, ()), ()), dimension * (many - 1))

    def test_against_fractions_and_partings(self):
        seen = set()
        for frame, placement in placed_frames(172, [*FRAMES[3:-2], *draw_frames(173, 60, 4, 8)], times_each=2):
            rank = slow_rank_at(frame, placement)
            bounds = [slow_bound(frame, parting, frame[0]) for parting in slow_partings(frame[1])]
            self.assertLessEqual(rank, min(bounds))
            self.check(frame, placement, rank, rank == min(bounds))
            self.assertGreaterEqual(left_at(frame, placement), free_of(frame))
            seen.add((frame[0], rank == min(bounds)))
        self.assertEqual(seen, set(itertools.product((1, 3, 6), (True, False))) - {(1, False)})

    def test_far_placements(self):
        for frame, placement in placed_frames(174, [*FRAMES[:-2], *draw_frames(175, 20, 5, 10)], 10 ** 9):
            self.assertEqual(rank_at(frame, placement), slow_rank_at(frame, placement))

    def test_errors_in_their_order(self):
        for function in (rank_at, left_at, is_general):
            with self.assertRaises(BadFrame):
                function((3, 2, [1]), None)
            for placement, number in ((None, -1), ((), -1), ((((0, 0), (0, 0)), None, None), 0), ([1, 2, 3], -1)):
                with self.assertRaises(BadPlacement) as caught:
                    function(THREE_BARS, placement)
                self.assertEqual(caught.exception.number, number)
