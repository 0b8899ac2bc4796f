"""[45]: TALLIES that are met, bodies that are overfull, TALLY PAPERS."""

import itertools
import unittest

from bodybars.errors import BadFrame, BadTally
from bodybars.tallies import (
    is_met, need_tally, overfull_lot, packing_with, tally_fault, tally_paper, tally_paper_fault,
)
from tests.helper import (
    FRAMES, SIZE, STRANGE, Spiteful, draw_frames, draw_packing, drawn, slow_is_packing, slow_packings,
)

FRAME = (3, 3, (("pin", 0, 1), ("bar", 0, 1), ("weld", 0, 1), ("pin", 1, 2)))


def draw_tally(rng, frame):
    return tuple(rng.randint(0, SIZE[frame[0]][kind]) for kind, _, _ in frame[2])


def slow_overfull(frame, tally):
    """All tuples of bodies that are overfull."""
    lots = [lot for many in range(2, frame[1] + 1) for lot in itertools.combinations(range(frame[1]), many)]
    told = []
    for lot in lots:
        between = sum(n for (_, one, other), n in zip(frame[2], tally) if one in lot and other in lot)
        if between > frame[0] * (len(lot) - 1):
            told.append(lot)
    return told


class Faults(unittest.TestCase):
    def check(self, frame, value, place):
        self.assertEqual(tally_fault(frame, value), place)
        if place is None:
            self.assertEqual(need_tally(frame, value), value)
            return
        for function in (need_tally, packing_with, is_met, overfull_lot, tally_paper):
            with self.assertRaises(BadTally) as caught:
                function(frame, value)
            self.assertEqual(caught.exception.place, place)
        with self.assertRaises(BadTally) as caught:
            tally_paper_fault(frame, value, None)
        self.assertEqual(caught.exception.place, place)

    def test_each_place(self):
        self.check(FRAME, (2, 1, 3, 2), None)
        self.check(FRAME, (0, 0, 0, 0), None)
        self.check((3, 1, ()), (), None)
        for value in STRANGE + (0, (), (0, 0, 0), (0,) * 5, [0, 0, 0, 0]):
            self.check(FRAME, value, -1)
        for value in STRANGE + (-1, 4, 10 ** 999, (0,)):
            self.check(FRAME, (value, None, None, None), 0)
            self.check(FRAME, (2, 1, value, None), 2)
            self.check(FRAME, (0, 0, 0, value), 3)
        self.check(FRAME, (3, 2, 4, 3), 0)
        self.check(FRAME, (2, 2, 4, 3), 1)
        self.check((6, 2, (("hinge", 0, 1),)), (6,), 0)

    def test_the_frame_is_asked_first(self):
        for function in (tally_fault, need_tally, packing_with, is_met, overfull_lot, tally_paper):
            with self.assertRaises(BadFrame):
                function(None, None)
        with self.assertRaises(BadFrame):
            tally_paper_fault(None, None, None)


class Tallies(unittest.TestCase):
    def test_against_all_lots_of_bodies(self):
        rng = drawn(53)
        met = 0
        for frame in FRAMES[:-1] + tuple(draw_frames(54, 150, 5, 9)):
            for tally in (draw_tally(rng, frame), tuple(map(len, draw_packing(rng, frame)))):
                lots = slow_overfull(frame, tally)
                self.assertIs(is_met(frame, tally), lots == [])
                packing, lot = packing_with(frame, tally), overfull_lot(frame, tally)
                paper = tally_paper(frame, tally)
                self.assertEqual(tally_paper_fault(frame, tally, paper), "")
                if lots == []:
                    met += 1
                    self.assertIsNone(lot)
                    self.assertTrue(slow_is_packing(frame, packing))
                    self.assertEqual(tuple(map(len, packing)), tally)
                    self.assertEqual(paper[0], "met")
                else:
                    self.assertIsNone(packing)
                    self.assertIn(lot, lots)
                    self.assertEqual(paper[0], "overfull")
        self.assertTrue(200 < met < 800, met)

    def test_all_tallies_of_small_frames(self):
        for frame in (
            (3, 2, (("pin", 0, 1), ("weld", 0, 1))), (3, 3, (("pin", 0, 1), ("bar", 1, 2), ("pin", 0, 2))),
            (1, 3, (("bar", 0, 1), ("weld", 1, 2), ("bar", 0, 2))),
        ):
            met = {tuple(map(len, packing)) for packing in slow_packings(frame)}
            for tally in itertools.product(*[range(SIZE[frame[0]][kind] + 1) for kind, _, _ in frame[2]]):
                self.assertIs(is_met(frame, tally), tally in met)

    def test_examples(self):
        self.assertIs(is_met(FRAME, (2, 1, 0, 2)), True)
        self.assertIs(is_met(FRAME, (2, 1, 1, 2)), False)
        self.assertEqual(overfull_lot(FRAME, (2, 1, 1, 0)), (0, 1))
        self.assertEqual(tally_paper(FRAME, (2, 1, 1, 0)), ("overfull", (0, 1)))
        self.assertEqual(tally_paper((3, 1, ()), ()), ("met", ()))
        full = (6, 3, (("hinge", 0, 1), ("hinge", 1, 2), ("hinge", 0, 2)))
        self.assertEqual(overfull_lot(full, (5, 5, 5)), (0, 1, 2))


class Papers(unittest.TestCase):
    def check(self, tally, paper, word):
        self.assertEqual(tally_paper_fault(FRAME, tally, paper), word)

    def test_form(self):
        for paper in STRANGE + (
            0, (), ("met",), ("met", (), ()), ["met", ()], ("Met", ()), (None, ()), (Spiteful(), ()), ((), ()),
            ("over", (0, 1)), (True, ()), ("", ()), (("met",), ()),
        ):
            self.check((0, 0, 0, 0), paper, "form")

    def test_met(self):
        for packing in STRANGE + ((), ((0, 0), (), (), ()), ((0, 1), (0,), (), ()), 0):
            self.check((0, 0, 0, 0), ("met", packing), "packing")
            self.check((2, 1, 1, 0), ("met", packing), "packing")
        self.check((2, 1, 0, 1), ("met", ((0, 1), (2,), (), (2,))), "")
        self.check((2, 1, 0, 1), ("met", ((0, 2), (1,), (), (0,))), "")
        self.check((2, 1, 0, 2), ("met", ((0, 1), (2,), (), (2,))), "tally")
        self.check((2, 0, 1, 1), ("met", ((0, 1), (2,), (), (2,))), "tally")

    def test_overfull(self):
        for lot in STRANGE + ((), (0,), (1, 0), (0, 0), (0, 3), (-1, 0), (0, True), [0, 1], (0, Spiteful()), (0, 1, 2, 3), 0):
            self.check((2, 1, 1, 2), ("overfull", lot), "lot")
        self.check((2, 1, 1, 2), ("overfull", (0, 1)), "")
        self.check((2, 1, 0, 2), ("overfull", (0, 1)), "room")
        self.check((2, 1, 1, 2), ("overfull", (1, 2)), "room")
        self.check((2, 1, 1, 2), ("overfull", (0, 1, 2)), "room")
        self.check((2, 1, 3, 2), ("overfull", (0, 1, 2)), "")
