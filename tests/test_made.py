"""[52], [53], [54], [56]: corners, the PLACEMENT OF a PACKING, GENERAL PAPERS."""

import unittest

from bodybars.corners import corner_lines, corner_places
from bodybars.errors import BadDimension, BadFrame, BadPacking, NoSpace
from bodybars.made import general_paper, general_paper_fault, placement_of_packing
from bodybars.placements import placement_fault
from bodybars.woodpapers import woods_paper
from bodybars.woods import greatest_packing, rank_of
from tests.helper import (
    FRAMES, STRANGE, Spiteful, draw_frames, draw_packing, drawn, slow_bound, slow_is_packing, slow_packings, slow_rank_at,
)
from tests.test_lines import NO_DIMENSION

EDGES = ((0, 1), (0, 2), (0, 3), (1, 2), (1, 3), (2, 3))
PINS = (3, 3, (("pin", 0, 1), ("pin", 1, 2), ("pin", 0, 2)))


class Corners(unittest.TestCase):
    def test_of_the_plane(self):
        self.assertEqual(corner_places(3), ((0, 0), (1, 0), (0, 1)))
        self.assertEqual(corner_lines(3), (((1, 0), (0, 1)), ((0, 0), (0, 1)), ((0, 0), (1, 0))))

    def test_of_space(self):
        corners = ((0, 0, 0), (1, 0, 0), (0, 1, 0), (0, 0, 1))
        self.assertEqual(corner_places(6), corners)
        self.assertEqual(corner_lines(6), tuple((corners[one], corners[other]) for one, other in EDGES))

    def test_what_is_no_dimension(self):
        for function in (corner_places, corner_lines):
            for dimension in NO_DIMENSION:
                with self.assertRaises(BadDimension):
                    function(dimension)
            with self.assertRaises(NoSpace):
                function(1)


def slow_placement(frame, packing):
    """The PLACEMENT OF a PACKING, by the words of [53]."""
    things = []
    for (kind, _, _), numbers in zip(frame[2], packing):
        if frame[0] == 1 or kind == "weld":
            things.append(())
        elif kind == "bar":
            things.append(corner_lines(frame[0])[numbers[0] if numbers else 0])
        else:
            least = min(set(range(frame[0])) - set(numbers))
            things.append(corner_places(3)[least] if kind == "pin" else corner_lines(6)[5 - least])
    return tuple(things)


class Made(unittest.TestCase):
    def test_bars_pins_and_welds(self):
        frame = (3, 2, (("bar", 0, 1),) * 4 + (("pin", 0, 1),) * 4 + (("weld", 0, 1),))
        for packing, things in (
            (((0,), (1,), (2,), (), (), (), (), (), ()), (
                ((1, 0), (0, 1)), ((0, 0), (0, 1)), ((0, 0), (1, 0)), ((1, 0), (0, 1)), (0, 0), (0, 0), (0, 0), (0, 0), (),
            )),
            (((), (), (), (), (0, 1), (2,), (), (), ()), (((1, 0), (0, 1)),) * 4 + ((0, 1), (0, 0), (0, 0), (0, 0), ())),
            (((), (), (), (), (0, 2), (1,), (), (), ()), (((1, 0), (0, 1)),) * 4 + ((1, 0), (0, 0), (0, 0), (0, 0), ())),
            (((), (), (), (), (1, 2), (0,), (), (), ()), (((1, 0), (0, 1)),) * 4 + ((0, 0), (1, 0), (0, 0), (0, 0), ())),
            (((), (), (), (), (), (), (), (), (0, 1, 2)), (((1, 0), (0, 1)),) * 4 + ((0, 0),) * 4 + ((),)),
        ):
            self.assertEqual(placement_of_packing(frame, packing), things)

    def test_of_space(self):
        bars = (6, 2, (("bar", 0, 1),) * 7)
        told = placement_of_packing(bars, ((0,), (1,), (2,), (3,), (4,), (5,), ()))
        self.assertEqual(told, corner_lines(6) + corner_lines(6)[:1])
        hinge = (6, 2, (("hinge", 0, 1),))
        for numbers, edge in (
            ((), 5), ((1, 2, 3, 4, 5), 5), ((0,), 4), ((0, 2, 3, 4, 5), 4), ((0, 1), 3), ((0, 1, 2), 2), ((0, 1, 2, 3), 1),
            ((0, 1, 2, 3, 4), 0), ((0, 1, 2, 4, 5), 2), ((0, 1, 2, 3, 5), 1),
        ):
            self.assertEqual(placement_of_packing(hinge, (numbers,)), (corner_lines(6)[edge],))

    def test_the_line(self):
        frame = (1, 2, (("bar", 0, 1), ("weld", 0, 1)))
        self.assertEqual(placement_of_packing(frame, ((0,), ())), ((), ()))
        self.assertEqual(placement_of_packing((6, 1, ()), ()), ())

    def test_the_rank_is_at_least_the_count(self):
        rng = drawn(181)
        for frame in [*FRAMES[:-1], *draw_frames(182, 60, 5, 10)]:
            for packing in (draw_packing(rng, frame), draw_packing(rng, frame), greatest_packing(frame)):
                told = placement_of_packing(frame, packing)
                self.assertEqual(told, slow_placement(frame, packing))
                self.assertIsNone(placement_fault(frame, told))
                self.assertGreaterEqual(slow_rank_at(frame, told), sum(map(len, packing)))
            self.assertEqual(slow_rank_at(frame, told), rank_of(frame))

    def test_each_packing_of_small_frames(self):
        for frame in (PINS, (3, 2, (("pin", 0, 1), ("bar", 0, 1))), (3, 3, (("bar", 0, 1), ("bar", 1, 2), ("weld", 0, 2)))):
            for packing in slow_packings(frame):
                told = placement_of_packing(frame, packing)
                self.assertEqual(told, slow_placement(frame, packing))
                self.assertGreaterEqual(slow_rank_at(frame, told), sum(map(len, packing)))

    def test_errors_in_their_order(self):
        with self.assertRaises(BadFrame):
            placement_of_packing(None, None)
        for packing, place in ((None, ()), (((0, 1), (1, 0), ()), (1, 1)), (((0, 1), (0, 1), (0,)), (2, 0))):
            with self.assertRaises(BadPacking) as caught:
                placement_of_packing(PINS, packing)
            self.assertEqual(caught.exception.place, place)


class GeneralPapers(unittest.TestCase):
    def test_papers_that_are_told(self):
        for frame in [*FRAMES, *draw_frames(183, 60, 6, 12)]:
            packing, parting, placement = paper = general_paper(frame)
            self.assertEqual((packing, parting), woods_paper(frame))
            self.assertEqual(placement, slow_placement(frame, packing))
            self.assertEqual(general_paper_fault(frame, paper), "")
            self.assertTrue(slow_is_packing(frame, packing))
            count = sum(map(len, packing))
            self.assertEqual((slow_bound(frame, parting, frame[0]), slow_rank_at(frame, placement)), (count, count))

    def test_each_word(self):
        packing, parting, placement = ((0, 1), (0, 2), (1, 2)), (0, 0, 0), ((0, 0), (1, 0), (0, 1))
        for paper, word in (
            ((packing, parting, placement), ""),
            ((packing, (0, 1, 2), ((5, 5), (7, -9), (100, 3))), ""),
            ((((0, 1), (0, 2), (0, 2)), parting, placement), "packing"),
            ((packing[:2], parting, placement), "packing"),
            ((packing, (0, 0), placement), "parting"),
            ((packing, (1, 0, 0), placement), "parting"),
            ((packing, parting, placement[:2]), "placement"),
            ((packing, parting, ((0, 0), (1, 0), (0, True))), "placement"),
            ((((0, 1), (0, 2), (1,)), parting, placement), "count"),
            ((packing, (0, 0, 1), placement), "count"),
            ((packing, parting, ((0, 0), (1, 0), (2, 0))), "rank"),
            ((packing, parting, ((0, 0), (0, 0), (0, 0))), "rank"),
        ):
            self.assertEqual(general_paper_fault(PINS, paper), word)
        good = (packing, parting, placement)
        for paper in STRANGE + (0, (), good[:2], good + (1,), list(good), 10 ** 999):
            self.assertEqual(general_paper_fault(PINS, paper), "form")
        for at, word in enumerate(("packing", "parting", "placement")):
            for value in STRANGE + (0,):
                self.assertEqual(general_paper_fault(PINS, good[:at] + (value,) + good[at + 1:]), word)

    def test_the_first_of_several(self):
        self.assertEqual(general_paper_fault(PINS, (Spiteful(), Spiteful(), Spiteful())), "packing")
        bare = ((), (), ())
        self.assertEqual(general_paper_fault(PINS, (bare, Spiteful(), Spiteful())), "parting")
        self.assertEqual(general_paper_fault(PINS, (bare, (0, 1, 2), Spiteful())), "placement")
        self.assertEqual(general_paper_fault(PINS, (bare, (0, 1, 2), ((0, 0),) * 3)), "count")
        # COUNT is BOUND, but the joint's rows hang together with those of no other: the rank is greater than no COUNT.
        self.assertEqual(general_paper_fault((3, 2, ()), ((), (0, 1), ())), "")
        self.assertEqual(general_paper_fault((3, 2, ()), ((), (0, 0), ())), "count")

    def test_wrong_frames(self):
        for function in (general_paper, lambda frame: general_paper_fault(frame, None)):
            with self.assertRaises(BadFrame):
                function((3, 2, [1]))
