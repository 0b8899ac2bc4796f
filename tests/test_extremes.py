"""[13], [43], [44]: joints that are reached, the finest, the coarsest and all least PARTINGS."""

import itertools
import unittest

from bodybars.errors import BadBody, BadFrame, BadNumber, BadPacking
from bodybars.extremes import are_together, finest_parting, least_parting, least_partings, reached
from bodybars.lattice import common_parting, is_finer, joined_parting
from bodybars.woods import greatest_packing, rank_of
from tests.helper import (
    FRAMES, SIZE, STRANGE, draw_frame, draw_frames, draw_packing, draw_stuck_packing, drawn, slow_bound, slow_pieces,
    slow_partings, slow_way,
)

SMALL = [frame for frame in FRAMES if frame[1] <= 5]


def slow_least(frame, numbers):
    bounds = {parting: slow_bound(frame, parting, numbers) for parting in slow_partings(frame[1])}
    return tuple(parting for parting, bound in bounds.items() if bound == min(bounds.values()))


def slow_reached(frame, packing):
    found = {
        at for at, (kind, _, _) in enumerate(frame[2]) if len(packing[at]) < SIZE[frame[0]][kind]
    }
    while True:
        more = set(found)
        for joint in found:
            for number in range(frame[0]):
                more |= set(slow_way(frame, packing, joint, number) or ())
        if more == found:
            return tuple(sorted(found))
        found = more


class Reached(unittest.TestCase):
    def test_an_example(self):
        frame = (3, 3, (("pin", 0, 1), ("bar", 0, 1), ("bar", 0, 1), ("pin", 1, 2)))
        self.assertEqual(reached(frame, ((0, 1), (2,), (), (0, 2))), (0, 1, 2))
        self.assertEqual(reached(frame, ((0, 1), (2,), (), (0,))), (0, 1, 2, 3))
        self.assertEqual(reached(frame, ((0,), (2,), (1,), (0, 2))), (0, 1, 2))
        self.assertEqual(reached((3, 2, (("pin", 0, 1),)), ((0, 1),)), ())
        self.assertEqual(reached((3, 2, (("pin", 0, 1), ("bar", 0, 1))), ((0,), ())), (0, 1))
        self.assertEqual(reached((3, 1, ()), ()), ())

    def test_drawn_ones(self):
        rng = drawn(45)
        for frame in FRAMES[:-1] + tuple(draw_frames(46, 80, 6, 12)):
            for packing in (draw_packing(rng, frame), draw_stuck_packing(rng, frame), greatest_packing(frame)):
                self.assertEqual(reached(frame, packing), slow_reached(frame, packing))

    def test_each_greatest_packing_tells_the_finest_parting(self):
        rng = drawn(47)
        for frame in draw_frames(48, 80, 6, 12):
            finest = finest_parting(frame)
            for packing in (greatest_packing(frame), draw_stuck_packing(rng, frame)):
                if sum(map(len, packing)) == rank_of(frame):
                    pairs = [frame[2][joint][1:] for joint in reached(frame, packing)]
                    self.assertEqual(slow_pieces(frame[1], pairs), finest)

    def test_errors_in_their_order(self):
        with self.assertRaises(BadFrame):
            reached(None, None)
        with self.assertRaises(BadPacking) as caught:
            reached((3, 2, (("pin", 0, 1),)), ((1, 0),))
        self.assertEqual(caught.exception.place, (0, 1))


class Extremes(unittest.TestCase):
    def test_against_all_partings(self):
        for frame in [*SMALL, *draw_frames(49, 80, 5, 12)]:
            for numbers in (None, *range(frame[0] + 1)):
                least = slow_least(frame, frame[0] if numbers is None else numbers)
                told = least_partings(frame, numbers=numbers)
                self.assertEqual(told, least)
                finest, coarsest = finest_parting(frame, numbers=numbers), least_parting(frame, numbers=numbers)
                self.assertIn(finest, least)
                self.assertIn(coarsest, least)
                for parting in least:
                    self.assertTrue(is_finer(finest, parting))
                    self.assertTrue(is_finer(parting, coarsest))
            self.assertEqual(finest_parting(frame), finest_parting(frame, numbers=frame[0]))
            self.assertEqual(least_parting(frame), least_parting(frame, numbers=frame[0]))

    def test_common_and_joined_least_partings_are_least(self):
        for frame in [*SMALL, *draw_frames(50, 40, 4, 8)]:
            least = least_partings(frame)
            for one, other in itertools.combinations(least, 2):
                self.assertIn(common_parting(one, other), least)
                self.assertIn(joined_parting(one, other), least)

    def test_known_frames(self):
        ring = (3, 4, (("pin", 0, 1), ("pin", 1, 2), ("pin", 2, 3), ("pin", 0, 3)))
        self.assertEqual(least_partings(ring), ((0, 1, 2, 3),))
        triangle = (3, 3, (("pin", 0, 1), ("pin", 1, 2), ("pin", 0, 2)))
        self.assertEqual(least_partings(triangle), ((0, 0, 0), (0, 1, 2)))
        self.assertEqual(finest_parting(triangle), (0, 1, 2))
        self.assertEqual(least_parting(triangle), (0, 0, 0))
        more = (3, 3, triangle[2] + (("bar", 0, 1),))
        self.assertEqual(least_partings(more), ((0, 0, 0),))
        self.assertEqual(least_parting(triangle, numbers=0), (0, 0, 0))
        self.assertEqual(finest_parting((3, 3, ()), numbers=0), (0, 1, 2))
        self.assertEqual(least_parting((3, 3, ()), numbers=0), (0, 0, 0))

    def test_eight_bodies(self):
        rng = drawn(51)
        for dimension in (1, 3, 6):
            frame = draw_frame(rng, dimension, 8, 16)
            least = least_partings(frame)
            self.assertEqual(list(least), sorted(set(least)))
            self.assertEqual({slow_bound(frame, parting, dimension) for parting in least}, {rank_of(frame)})
            for parting in least:
                self.assertTrue(is_finer(finest_parting(frame), parting))
                self.assertTrue(is_finer(parting, least_parting(frame)))
            self.assertIn(finest_parting(frame), least)
            self.assertIn(least_parting(frame), least)

    def test_errors_in_their_order(self):
        for function in (finest_parting, least_parting, least_partings):
            with self.assertRaises(BadFrame):
                function(None, numbers=True)
            for value in tuple(value for value in STRANGE if value is not None) + (-1, 7, (1,), 10 ** 999):
                with self.assertRaises(BadNumber) as caught:
                    function((6, 1, ()), numbers=value)
                self.assertIs(caught.exception.value, value)


class Together(unittest.TestCase):
    def test_a_bar_more(self):
        for frame in [*SMALL[:-1], *draw_frames(52, 80, 6, 12)]:
            for one, other in itertools.combinations(range(frame[1]), 2):
                more = (frame[0], frame[1], frame[2] + (("bar", one, other),))
                told = are_together(frame, one, other)
                self.assertIs(told, rank_of(more) == rank_of(frame))
                self.assertIs(are_together(frame, other, one), told)
                self.assertEqual(rank_of(more) - rank_of(frame), 0 if told else 1)
                for numbers in range(frame[0] + 1):
                    coarsest = least_parting(frame, numbers=numbers)
                    grows = rank_of(more, numbers=numbers) - rank_of(frame, numbers=numbers)
                    self.assertEqual(grows, 0 if coarsest[one] == coarsest[other] else 1)

    def test_a_body_is_with_itself(self):
        for frame in FRAMES:
            for body in range(frame[1]):
                self.assertIs(are_together(frame, body, body), True)

    def test_with_forty_joints(self):
        frame = (3, 3, (("bar", 0, 1),) * 38 + (("bar", 1, 2),) * 2)
        self.assertIs(are_together(frame, 0, 1), True)
        self.assertIs(are_together(frame, 0, 2), False)

    def test_errors_in_their_order(self):
        frame = (3, 3, ())
        with self.assertRaises(BadFrame):
            are_together(None, None, None)
        for value in STRANGE + (-1, 3, (0,), 10 ** 999):
            with self.assertRaises(BadBody) as caught:
                are_together(frame, value, None)
            self.assertIs(caught.exception.value, value)
            with self.assertRaises(BadBody) as caught:
                are_together(frame, 0, value)
            self.assertIs(caught.exception.value, value)
