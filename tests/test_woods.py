"""[11], [13], [41]: greatest PACKINGS, RANK and FREE."""

import unittest

from bodybars.errors import BadFrame, BadNumber, BadPacking
from bodybars.woods import free_of, greatest_packing, grown, rank_of
from tests.helper import (
    FRAMES, STRANGE, draw_frames, draw_packing, drawn, slow_bound, slow_is_packing, slow_packings, slow_partings,
)


def slow_rank(frame, numbers):
    return min(slow_bound(frame, parting, numbers) for parting in slow_partings(frame[1]))


class Woods(unittest.TestCase):
    def test_known_frames(self):
        bars = tuple(("bar", one, other) for one in range(4) for other in range(one + 1, 4))
        for frame, rank, free in (
            ((3, 1, ()), 0, 0), ((6, 8, ()), 0, 42), ((3, 2, (("pin", 0, 1),)), 2, 1), ((3, 2, (("bar", 0, 1),) * 40), 3, 0),
            ((3, 3, (("pin", 0, 1), ("pin", 1, 2), ("pin", 0, 2))), 6, 0),
            ((3, 4, (("pin", 0, 1), ("pin", 1, 2), ("pin", 2, 3), ("pin", 0, 3))), 8, 1),
            ((6, 2, (("hinge", 0, 1), ("bar", 0, 1))), 6, 0), ((6, 2, (("hinge", 0, 1),)), 5, 1),
            ((6, 6, tuple(("hinge", b, b + 1) for b in range(5)) + (("hinge", 0, 5),)), 30, 0),
            ((6, 7, tuple(("hinge", b, b + 1) for b in range(6)) + (("hinge", 0, 6),)), 35, 1),
            ((3, 4, bars), 6, 3), ((1, 4, bars), 3, 0), ((6, 3, (("weld", 0, 1), ("weld", 0, 1))), 6, 6),
        ):
            self.assertEqual(rank_of(frame), rank)
            self.assertEqual(free_of(frame), free)

    def test_rank_is_the_least_bound_of_all_partings(self):
        for frame in FRAMES[:-2] + tuple(draw_frames(40, 100, 5, 12)):
            if frame[1] > 6:
                continue
            for numbers in range(frame[0] + 1):
                self.assertEqual(rank_of(frame, numbers=numbers), slow_rank(frame, numbers))
            self.assertEqual(rank_of(frame), slow_rank(frame, frame[0]))
            self.assertEqual(rank_of(frame, numbers=None), rank_of(frame))
            self.assertEqual(free_of(frame), frame[0] * (frame[1] - 1) - rank_of(frame))

    def test_rank_is_the_greatest_count_of_all_packings(self):
        for frame in draw_frames(41, 25, 4, 4):
            if frame[0] == 6:
                continue
            packings = slow_packings(frame)
            for numbers in range(frame[0] + 1):
                counts = [sum(map(len, p)) for p in packings if all(n < numbers for row in p for n in row)]
                self.assertEqual(rank_of(frame, numbers=numbers), max(counts))

    def test_greatest_packings(self):
        for frame in FRAMES + tuple(draw_frames(42, 60, 8, 40)):
            for numbers in (None, *range(frame[0] + 1)):
                packing = greatest_packing(frame, numbers=numbers)
                many = frame[0] if numbers is None else numbers
                self.assertTrue(slow_is_packing(frame, packing))
                self.assertTrue(all(number < many for row in packing for number in row))
                self.assertEqual(sum(map(len, packing)), rank_of(frame, numbers=numbers))

    def test_grown(self):
        rng = drawn(43)
        for frame in FRAMES + tuple(draw_frames(44, 100, 8, 15)):
            packing = draw_packing(rng, frame)
            told = grown(frame, packing)
            self.assertTrue(slow_is_packing(frame, told))
            self.assertEqual(sum(map(len, told)), rank_of(frame))
            for before, behind in zip(packing, told):
                self.assertGreaterEqual(len(behind), len(before))

    def test_errors_in_their_order(self):
        for function in (greatest_packing, rank_of, free_of, lambda frame: grown(frame, None)):
            with self.assertRaises(BadFrame) as caught:
                function((6, 2, (("pin", 0, 1),)))
            self.assertEqual((caught.exception.word, caught.exception.place), ("kind", (2, 0, 0)))
        with self.assertRaises(BadPacking) as caught:
            grown((3, 2, (("bar", 0, 1),)), ((0, 1),))
        self.assertEqual(caught.exception.place, (0,))
        for function in (greatest_packing, rank_of):
            with self.assertRaises(BadFrame):
                function(None, numbers=True)
            for value in tuple(value for value in STRANGE if value is not None) + (-1, 4, (1,), 10 ** 999):
                with self.assertRaises(BadNumber) as caught:
                    function((3, 1, ()), numbers=value)
                self.assertIs(caught.exception.value, value)
