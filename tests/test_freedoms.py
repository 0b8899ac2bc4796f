"""[83], [84]: FREEDOMS of two bodies and FREEDOM PAPERS."""

import itertools
import unittest

from bodybars.errors import BadBody, BadFrame, BadNumber
from bodybars.freedoms import freedom, freedom_fault, freedom_paper, freedoms
from bodybars.made import placement_of_packing
from bodybars.stifflots import stiff_lots
from bodybars.sways import sway
from bodybars.woods import free_of, greatest_packing, rank_of
from tests.helper import (
    FRAMES, SIZE, STRANGE, Spiteful, draw_frame, draw_frames, drawn, slow_bound, slow_is_packing, slow_partings, slow_rank_of,
)

RING = (3, 4, (("pin", 0, 1), ("pin", 1, 2), ("pin", 2, 3), ("pin", 0, 3)))
FULL = (6, 3, (("bar", 0, 1),) * 4 + (("hinge", 0, 2),) + (("bar", 0, 2),) * 35)


def welded(frame, one, other):
    return (*frame[:2], frame[2] + (("weld", *sorted((one, other))),))


def all_pairs(frame):
    return itertools.permutations(range(frame[1]), 2)


class Freedoms(unittest.TestCase):
    def test_against_ranks_with_a_weld(self):
        told = set()
        for frame in [*FRAMES[:10], *draw_frames(480, 30, 4, 7)]:
            if frame[1] > 4:
                continue
            rank = slow_rank_of(frame)
            for one, other in all_pairs(frame):
                number = slow_rank_of(welded(frame, one, other)) - rank
                self.assertEqual(freedom(frame, one, other), number)
                told.add(number)
            for body in range(frame[1]):
                self.assertEqual(freedom(frame, body, body), 0)
        self.assertEqual(told, set(range(7)))

    def test_all_of_a_frame(self):
        for frame in [*FRAMES, *draw_frames(481, 15, 6, 9)]:
            told = freedoms(frame)
            many = frame[1]
            self.assertEqual(told, tuple(tuple(freedom(frame, a, b) for b in range(many)) for a in range(many)))
            lots, free = stiff_lots(frame), free_of(frame)
            for a, b in itertools.product(range(many), repeat=2):
                self.assertEqual(told[a][b] == 0, lots[a] == lots[b])
                self.assertEqual(told[a][b], told[b][a])
                self.assertLessEqual(told[a][b], free)
                for c in range(many):
                    self.assertLessEqual(told[a][c], told[a][b] + told[b][c])
            for kind, a, b in frame[2]:
                self.assertLessEqual(told[a][b], frame[0] - SIZE[frame[0]][kind])

    def test_by_slacks(self):
        for frame in draw_frames(482, 20, 5, 7):
            rank = slow_rank_of(frame)
            for one, other in all_pairs(frame):
                slacks = [
                    slow_bound(frame, parting, frame[0]) - rank
                    for parting in slow_partings(frame[1]) if parting[one] == parting[other]
                ]
                self.assertEqual(freedom(frame, one, other), min([frame[0], *slacks]))

    def test_forty_joints(self):
        self.assertEqual(len(FULL[2]), 40)
        self.assertEqual(freedoms(FULL), ((0, 2, 0), (2, 0, 2), (0, 2, 0)))
        self.assertEqual(freedom_fault(FULL, 1, 2, 2, freedom_paper(FULL, 1, 2)), "")
        for dimension in (1, 3, 6):
            frame = draw_frame(drawn(483), dimension, 8, 40)
            frame = (*frame[:2], (frame[2] + (("bar", 0, 7),) * 40)[:40])
            self.assertEqual(len(frame[2]), 40)
            for one, other in ((0, 7), (3, 2)):
                number = freedom(frame, one, other)
                self.assertEqual(freedom_fault(frame, one, other, number, freedom_paper(frame, one, other)), "")

    def test_examples(self):
        self.assertEqual(freedoms(RING), ((0, 1, 1, 1), (1, 0, 1, 1), (1, 1, 0, 1), (1, 1, 1, 0)))
        self.assertEqual(freedoms((6, 2, ())), ((0, 6), (6, 0)))
        self.assertEqual(freedoms((3, 1, ())), ((0,),))
        self.assertEqual(freedom((6, 3, (("hinge", 0, 1), ("hinge", 1, 2))), 0, 2), 2)

    def test_sway_at_a_general_placement(self):
        # [155], and what two bodies move by there.
        for frame in draw_frames(484, 20, 5, 7):
            placement = placement_of_packing(frame, greatest_packing(frame))
            for one, other in all_pairs(frame):
                self.assertLessEqual(sway(frame, placement, one, other), freedom(frame, one, other))

    def test_errors_in_their_order(self):
        for call in (freedom, freedom_paper, lambda *args: freedom_fault(*args, None, None)):
            with self.assertRaises(BadFrame):
                call((3, 2, [1]), None, None)
            for body in STRANGE + (-1, 4, 10 ** 999, (0,)):
                for bodies in ((body, None), (0, body)):
                    with self.assertRaises(BadBody) as caught:
                        call(RING, *bodies)
                    self.assertIs(caught.exception.value, body)
        with self.assertRaises(BadFrame):
            freedoms((3, 2, [1]))
        for call in (freedom_paper, lambda *args: freedom_fault(*args, None, None)):
            with self.assertRaises(BadBody) as caught:
                call(RING, 2, 2)
            self.assertEqual(caught.exception.value, 2)
        for number in STRANGE + (-1, 4, 10 ** 999, (0,)):
            with self.assertRaises(BadNumber) as caught:
                freedom_fault(RING, 0, 1, number, Spiteful())
            self.assertIs(caught.exception.value, number)


class Papers(unittest.TestCase):
    def test_for_the_right_number_alone(self):
        for frame in [*FRAMES[:10], *draw_frames(485, 25, 5, 8)]:
            for one, other in all_pairs(frame):
                paper = freedom_paper(frame, one, other)
                packing, parting, further = paper
                more = welded(frame, one, other)
                number = freedom(frame, one, other)
                self.assertTrue(slow_is_packing(more, packing))
                self.assertEqual(len(packing[-1]), number)
                self.assertEqual(sum(map(len, packing)), slow_bound(more, further, frame[0]))
                self.assertEqual(sum(map(len, packing)) - number, slow_bound(frame, parting, frame[0]))
                for due in range(frame[0] + 1):
                    self.assertEqual(freedom_fault(frame, one, other, due, paper), "" if due == number else "number")

    def test_no_other_number_has_a_paper(self):
        frame = (3, 3, (("pin", 0, 1), ("bar", 1, 2)))
        more = welded(frame, 0, 2)
        for number in range(4):
            good = 0
            for parting, further in itertools.product(slow_partings(3), repeat=2):
                for row in itertools.product(*[
                    [r for n in range(s + 1) for r in itertools.combinations(range(3), n)] for s in (2, 1, 3)
                ]):
                    if slow_is_packing(more, row):
                        good += freedom_fault(frame, 0, 2, number, (row, parting, further)) == ""
            self.assertEqual(good > 0, number == freedom(frame, 0, 2))

    def check(self, paper, word, number=1):
        self.assertEqual(freedom_fault(RING, 0, 2, number, paper), word)
        self.assertEqual(freedom_fault(RING, 2, 0, number, paper), word)

    def test_each_word(self):
        good = freedom_paper(RING, 0, 2)
        packing, parting, further = good
        self.assertEqual((parting, further), ((0, 1, 2, 3), (0, 0, 0, 0)))
        self.check(good, "")
        for paper in STRANGE + (0, (), good[:2], good + (1,), list(good)):
            self.check(paper, "form")
        for value in STRANGE + (0, (), packing[:4], packing + ((),), [*packing], ((0, 0),) + packing[1:], ((0,),) * 5):
            self.check((value, parting, further), "form")
        for value in STRANGE + (0, (), (0, 1, 2), (0, 2, 1, 1), [0, 1, 2, 3]):
            self.check((packing, value, further), "form")
            self.check((packing, parting, value), "form")
        for number in (0, 2, 3):
            self.check(good, "number", number)
        self.check((packing[:4] + ((),), parting, parting), "number")
        self.check((packing[:4] + ((),), parting, parting), "other", 0)
        self.check((packing, parting, (0, 1, 2, 3)), "other")
        self.check((packing, (0, 0, 0, 0), further), "parting")
        self.check(((packing[0][:1],) + packing[1:], parting, further), "other")

    def test_the_first_of_several(self):
        packing, parting, further = freedom_paper(RING, 0, 2)
        self.check((packing, Spiteful(), Spiteful()), "form", 3)
        self.check((packing, (0, 0, 0, 0), (0, 1, 2, 3)), "number", 3)
        self.check((packing, (0, 0, 0, 0), (0, 1, 2, 3)), "other")
