"""[73]: CHEAPEST PAPERS."""

import unittest

from bodybars.cheapest import greedy_tally, is_cheapest
from bodybars.costpapers import cheapest_fault, cheapest_paper, is_cheapest_paper
from bodybars.costs import cheap_part
from bodybars.errors import BadCosts, BadFrame
from bodybars.extremes import least_parting
from bodybars.tallies import packing_with
from tests.helper import (
    FRAMES, STRANGE, Spiteful, draw_frames, drawn, slow_bound, slow_greatest_tallies, slow_is_packing, slow_partings,
    tally_frames,
)

FRAME = (3, 3, (("bar", 0, 1), ("pin", 0, 1), ("bar", 0, 1), ("weld", 1, 2)))
COSTS = (4, 4, 2, 7)
GOOD = (((0,), (1,), (2,), (0, 1, 2)), ((0, 1, 2), (0, 0, 1), (0, 0, 0)))


class Papers(unittest.TestCase):
    def test_papers(self):
        rng = drawn(410)
        for frame in [*FRAMES, *draw_frames(411, 30, 6, 12), *draw_frames(412, 3, 8, 40)]:
            costs = tuple(rng.randint(1, 5) for _ in frame[2])
            packing, partings = cheapest_paper(frame, costs)
            self.assertTrue(slow_is_packing(frame, packing))
            self.assertEqual(tuple(map(len, packing)), greedy_tally(frame, costs))
            levels = sorted(set(costs))
            self.assertEqual(partings, tuple(least_parting(cheap_part(frame, costs, level)) for level in levels))
            self.assertEqual(cheapest_fault(frame, costs, (packing, partings)), "")
            self.assertIs(is_cheapest_paper(frame, costs, (packing, partings)), True)

    def test_without_joints(self):
        for frame in ((3, 1, ()), (6, 8, ())):
            self.assertEqual(cheapest_paper(frame, ()), ((), ()))
            self.assertIs(is_cheapest_paper(frame, (), ((), ())), True)
            self.assertEqual(cheapest_fault(frame, (), ((), ((0,) * frame[1],))), "form")

    def test_there_are_papers_for_cheapest_tallies_alone(self):
        rng = drawn(413)
        words = []
        for frame in tally_frames(414, 25, 60, 3, 4):
            costs = tuple(rng.randint(1, 3) for _ in frame[2])
            levels = sorted(set(costs))
            rows = [[(cheap_part(frame, costs, level), p) for p in slow_partings(frame[1])] for level in levels]
            for tally in slow_greatest_tallies(frame):
                packing = packing_with(frame, tally)
                counts = [sum(n for n, cost in zip(tally, costs) if cost <= level) for level in levels]
                fitting = [
                    [p for part, p in row if slow_bound(part, p, frame[0]) == count] for row, count in zip(rows, counts)
                ]
                good = all(fitting)
                self.assertIs(is_cheapest(frame, costs, tally), good)
                paper = (packing, tuple(row[0] if row else (0,) * frame[1] for row in fitting))
                self.assertEqual(cheapest_fault(frame, costs, paper), "" if good else "level")
                words.append(good)
        self.assertGreater(min(words.count(True), words.count(False)), 20)


class Faults(unittest.TestCase):
    def check(self, paper, word):
        self.assertEqual(cheapest_fault(FRAME, COSTS, paper), word)
        self.assertIs(is_cheapest_paper(FRAME, COSTS, paper), word == "")

    def test_each_word(self):
        packing, partings = GOOD
        self.check(GOOD, "")
        self.check((((0,), (1,), (2,), (0, 1, 2)), ((0, 1, 2), (0, 0, 1), (0, 0, 0))), "")
        for paper in STRANGE + (0, (), (packing,), GOOD + (1,), list(GOOD), (packing, list(partings))):
            self.check(paper, "form")
        for value in STRANGE + (0, (), partings[:2], partings + ((0, 0, 0),)):
            self.check((packing, value), "form")
        for value in STRANGE + (0, (), packing[:3], ((0,), (0,), (2,), (0, 1, 2)), [*packing], ((0, 1), (), (2,), (0, 1, 2))):
            self.check((value, partings), "packing")
        for value in STRANGE + (0, (0, 0), (0, 2, 1), (1, 0, 0), [0, 0, 1], (0, True, 1)):
            for at in range(3):
                self.check((packing, partings[:at] + (value,) + partings[at + 1:]), "parting")
        self.check((packing, ((0, 0, 0), (0, 0, 1), (0, 0, 0))), "level")
        self.check((packing, ((0, 1, 2), (0, 1, 2), (0, 0, 0))), "level")
        self.check((packing, ((0, 1, 2), (0, 0, 1), (0, 1, 2))), "level")
        self.check((((0,), (1, 2), (), (0, 1, 2)), partings), "level")
        self.check((((0,), (1,), (2,), (0, 1)), partings), "level")

    def test_the_first_of_several(self):
        packing, partings = GOOD
        self.check((Spiteful(), partings[:2]), "form")
        self.check((((0,), (0,), (2,), ()), ((0, 0, 0), Spiteful(), Spiteful())), "packing")
        self.check((((), (), (), ()), ((0, 0, 0), (0, 0, 1), (0, 2, 0))), "parting")

    def test_errors_in_their_order(self):
        for call in (cheapest_paper, lambda *args: cheapest_fault(*args, 1), lambda *args: is_cheapest_paper(*args, 1)):
            with self.assertRaises(BadFrame):
                call((3, 2, [1]), None)
            for costs, place in ((None, -1), ((1, 1, 1), -1), ((1, 1, 0, 0), 2)):
                with self.assertRaises(BadCosts) as caught:
                    call(FRAME, costs)
                self.assertEqual(caught.exception.place, place)
