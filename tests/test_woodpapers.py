"""[49], and [13], [41], [44] as far as a WOODS PAPER shows them."""

import unittest

from bodybars.errors import BadFrame, BadNumber
from bodybars.woodpapers import is_woods_paper, woods_fault, woods_paper
from tests.helper import (
    FRAMES, STRANGE, Spiteful, draw_frames, draw_packing, draw_parting, drawn, lots_from, slow_bound, slow_is_packing,
    slow_partings,
)

SMALL = [frame for frame in FRAMES if frame[1] <= 5]
PINS = (3, 3, (("pin", 0, 1), ("pin", 1, 2), ("pin", 0, 2)))


def slow_fault(frame, paper, numbers):
    """The first word, of a pair of a tuple of tuples of integers and a tuple of integers."""
    packing, parting = paper
    if not slow_is_packing(frame, packing):
        return "packing"
    if any(number >= numbers for row in packing for number in row):
        return "number"
    if len(parting) != frame[1] or parting != lots_from(parting):
        return "parting"
    return "" if sum(map(len, packing)) == slow_bound(frame, parting, numbers) else "count"


class Papers(unittest.TestCase):
    def test_each_k_against_all_partings(self):
        for frame in [*SMALL, *draw_frames(101, 60, 5, 12)]:
            for numbers in (None, *range(frame[0] + 1)):
                many = frame[0] if numbers is None else numbers
                packing, parting = paper = woods_paper(frame, numbers=numbers)
                bounds = {told: slow_bound(frame, told, many) for told in slow_partings(frame[1])}
                least = [told for told, bound in bounds.items() if bound == min(bounds.values())]
                self.assertTrue(slow_is_packing(frame, packing))
                self.assertTrue(all(number < many for row in packing for number in row))
                self.assertEqual(sum(map(len, packing)), min(bounds.values()))
                # The coarsest one alone has the fewest lots.
                fewest = min(len(set(told)) for told in least)
                self.assertEqual([told for told in least if len(set(told)) == fewest], [parting])
                self.assertEqual(woods_fault(frame, paper, numbers=numbers), "")
                self.assertIs(is_woods_paper(frame, paper, numbers=numbers), True)
            self.assertEqual(woods_paper(frame), woods_paper(frame, numbers=None))
            self.assertEqual(woods_paper(frame), woods_paper(frame, numbers=frame[0]))

    def test_large_frames(self):
        for frame in FRAMES:
            for numbers in range(frame[0] + 1):
                packing, parting = woods_paper(frame, numbers=numbers)
                self.assertEqual(slow_fault(frame, (packing, parting), numbers), "")

    def test_known_ones(self):
        packing, parting = woods_paper(PINS)
        self.assertEqual((list(map(len, packing)), parting), ([2, 2, 2], (0, 0, 0)))
        self.assertEqual(woods_paper(PINS, numbers=0), (((), (), ()), (0, 0, 0)))
        self.assertEqual(woods_paper((6, 1, ())), ((), (0,)))
        self.assertEqual(woods_paper((3, 3, ())), ((), (0, 1, 2)))


class Faults(unittest.TestCase):
    def check(self, frame, paper, word, numbers=None):
        self.assertEqual(woods_fault(frame, paper, numbers=numbers), word)
        self.assertIs(is_woods_paper(frame, paper, numbers=numbers), word == "")

    def test_each_word(self):
        good = ((0, 1), (0, 2), (1, 2))
        self.check(PINS, (good, (0, 0, 0)), "")
        self.check(PINS, (good, (0, 1, 2)), "")
        for paper in STRANGE + (0, (), (good,), (good, (0, 0, 0), 1), [good, (0, 0, 0)], 10 ** 999):
            self.check(PINS, paper, "form")
        for packing in STRANGE + (0, (), good[:2], ((0, 1), (0, 2), (0, 2)), (good[0], good[1], [1, 2])):
            self.check(PINS, (packing, (0, 0, 0)), "packing")
        self.check(PINS, (good, (0, 0, 0)), "number", 2)
        self.check(PINS, (good, (0, 0, 0)), "number", 0)
        self.check(PINS, (good, (0, 0, 0)), "", 3)
        self.check(PINS, (((0, 1), (0, 1), ()), (0, 0, 0)), "", 2)
        self.check(PINS, (((0, 1), (0, 2), ()), (0, 0, 0)), "number", 2)
        for parting in STRANGE + (0, (), (0, 0), (0, 0, 0, 0), (0, 2, 1), (1, 0, 0), (0, 0, False), [0, 0, 0]):
            self.check(PINS, (good, parting), "parting")
        self.check(PINS, (good, (0, 0, 1)), "count")
        self.check(PINS, (((0, 1), (0, 2), (1,)), (0, 0, 0)), "count")

    def test_the_first_of_several(self):
        self.check(PINS, (((0, 1), (0, 2), (0, 2)), Spiteful()), "packing", 1)
        self.check(PINS, (((0, 1), (0, 2), (1,)), Spiteful()), "number", 1)
        self.check(PINS, (((0, 1), (0,), ()), (1, 1, 1)), "parting", 2)

    def test_drawn_ones(self):
        rng = drawn(102)
        seen = set()
        for frame in draw_frames(103, 150, 4, 6):
            for _ in range(3):
                numbers = rng.randint(0, frame[0])
                packing = draw_packing(rng, frame, rng.choice((numbers, frame[0])))
                parting = draw_parting(rng, frame[1])
                if rng.random() < 0.3:
                    packing = woods_paper(frame, numbers=numbers)[0]
                if rng.random() < 0.3:
                    parting = woods_paper(frame, numbers=numbers)[1]
                if rng.random() < 0.2:
                    parting = tuple(rng.randrange(frame[1]) for _ in range(frame[1]))
                word = slow_fault(frame, (packing, parting), numbers)
                self.check(frame, (packing, parting), word, numbers)
                seen.add(word)
        self.assertEqual(seen, {"", "number", "parting", "count"})

    def test_a_wrong_number_comes_ahead_of_all_words(self):
        for value in tuple(value for value in STRANGE if value is not None) + (-1, 4, 10 ** 999, (1,)):
            for call in (
                lambda: woods_fault(PINS, None, numbers=value), lambda: is_woods_paper(PINS, (), numbers=value),
                lambda: woods_paper(PINS, numbers=value),
            ):
                with self.assertRaises(BadNumber) as caught:
                    call()
                self.assertIs(caught.exception.value, value)
        for call in (
            lambda: woods_fault(None, None, numbers=9), lambda: is_woods_paper([], None, numbers=9),
            lambda: woods_paper((), numbers=9),
        ):
            with self.assertRaises(BadFrame):
                call()
