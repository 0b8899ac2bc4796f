"""[70]: FILLINGS."""

import itertools
import unittest

from bodybars.errors import BadFilling, BadFrame, BadPairs
from bodybars.extremes import are_together
from bodybars.fillings import filling_fault, filling_swap, first_filling, need_filling
from bodybars.woods import free_of
from tests.helper import FRAMES, STRANGE, Spiteful, draw_frames, slow_rank_of

SMALL = [frame for frame in FRAMES if frame[1] <= 4]
RING = (3, 4, (("pin", 0, 1), ("pin", 1, 2), ("pin", 2, 3), ("pin", 0, 3)))
PIN = (3, 3, (("pin", 0, 1), ("weld", 1, 2)))


def all_pairs(frame):
    return list(itertools.combinations(range(frame[1]), 2))


def filled(frame, pairs):
    return (frame[0], frame[1], frame[2] + tuple(("bar", *pair) for pair in pairs))


def slow_stiff(frame, pairs):
    return slow_rank_of(filled(frame, pairs)) == frame[0] * (frame[1] - 1)


def slow_fillings(frame):
    free = frame[0] * (frame[1] - 1) - slow_rank_of(frame)
    return [row for row in itertools.combinations_with_replacement(all_pairs(frame), free) if slow_stiff(frame, row)]


def small_frames(seed, many):
    """FRAMES with a FREE for which all FILLINGS can be tried."""
    for frame in [*SMALL, *draw_frames(seed, many, 4, 7)]:
        if free_of(frame) <= 4:
            yield frame


class Fillings(unittest.TestCase):
    def check(self, frame, value, word):
        self.assertEqual(filling_fault(frame, value), word)
        if word == "":
            self.assertEqual(need_filling(frame, value), value)
            return
        with self.assertRaises(BadFilling) as caught:
            need_filling(frame, value)
        self.assertEqual(caught.exception.word, word)

    def test_form(self):
        for value in STRANGE + (
            0, [(0, 2)], ((0, 4),), ((2, 0),), ((0, 0),), ((-1, 1),), ((0, True),), ((False, 1),), ([0, 2],), ((0, 2, 3),),
            ((0,),), (0, 2), (None,), ((0, 2), None), ((0, Spiteful()),), (Spiteful(),), ((1, 2), (0, 1)), ((0, 3), (0, 2)),
            ((0, 2), (0, 10 ** 999)),
        ):
            self.check(RING, value, "form")

    def test_count_then_loose(self):
        self.check(RING, (), "count")
        self.check(RING, ((0, 2), (1, 3)), "count")
        self.check(RING, ((0, 2),), "")
        self.check(RING, ((0, 1),), "")
        self.check(PIN, ((0, 1),), "")
        self.check(PIN, ((1, 2),), "loose")
        self.check(PIN, ((0, 1), (0, 1)), "count")
        self.check((3, 2, ()), ((0, 1),) * 3, "")
        self.check((3, 3, ()), ((0, 1),) * 6, "loose")
        self.check((3, 3, ()), ((0, 1),) * 3 + ((0, 2),) * 3, "")
        self.check((3, 3, ()), ((0, 1),) * 4 + ((0, 2),) * 2, "loose")
        self.check((3, 2, (("weld", 0, 1),)), (), "")
        self.check((6, 1, ()), (), "")
        self.check((6, 1, ()), ((0, 1),), "form")

    def test_all_values_of_the_count(self):
        seen = set()
        for frame in small_frames(331, 40):
            good = slow_fillings(frame)
            for row in itertools.combinations_with_replacement(all_pairs(frame), free_of(frame)):
                word = "" if row in good else "loose"
                self.check(frame, row, word)
                seen.add(word)
        self.assertEqual(seen, {"", "loose"})

    def test_more_than_forty_joints_and_bars(self):
        frame = (6, 8, (("bar", 0, 1),) * 40)
        pairs = tuple((0, body) for body in range(2, 8) for _ in range(6))
        self.check(frame, pairs, "")
        self.assertEqual(first_filling(frame), pairs)
        self.check(frame, ((0, 1),) + pairs[1:], "loose")
        self.check(frame, pairs[1:], "count")
        self.check(frame, ((0, 1),) * 100, "count")

    def test_frames_come_first(self):
        for function in (filling_fault, need_filling, lambda frame, value: first_filling(frame)):
            with self.assertRaises(BadFrame):
                function((3, 2, [1]), Spiteful())


class First(unittest.TestCase):
    def test_examples(self):
        self.assertEqual(first_filling(RING), ((0, 1),))
        self.assertEqual(first_filling(PIN), ((0, 1),))
        self.assertEqual(first_filling((3, 3, ())), ((0, 1),) * 3 + ((0, 2),) * 3)
        self.assertEqual(first_filling((1, 4, (("bar", 0, 2),))), ((0, 1), (0, 3)))
        self.assertEqual(first_filling((6, 8, ())), tuple((0, body) for body in range(1, 8) for _ in range(6)))
        self.assertEqual(first_filling((6, 1, ())), ())

    def test_each_pair_is_the_least_of_all(self):
        for frame in small_frames(332, 60):
            good = slow_fillings(frame)
            told = first_filling(frame)
            self.assertIn(told, good)
            for place, pair in enumerate(told):
                self.assertEqual(pair, min(row[place] for row in good))

    def test_each_bar_comes_between_the_least_pair_that_is_not_together(self):
        for frame in draw_frames(333, 20, 7, 12):
            told = first_filling(frame)
            self.assertEqual(filling_fault(frame, told), "")
            for place, pair in enumerate(told):
                with_bars = filled(frame, told[:place])
                if len(with_bars[2]) <= 40:
                    apart = [one for one in all_pairs(frame) if not are_together(with_bars, *one)]
                    self.assertEqual(pair, apart[0])


class Swap(unittest.TestCase):
    def test_examples(self):
        self.assertEqual(filling_swap(RING, ((0, 2),), ((1, 3),), (0, 2)), (1, 3))
        self.assertIsNone(filling_swap(RING, ((0, 2),), ((1, 3),), (1, 3)))
        self.assertIsNone(filling_swap(RING, ((0, 2),), ((0, 2),), (0, 2)))
        self.assertIsNone(filling_swap(RING, ((0, 2),), ((1, 3),), (0, 1)))
        one, other = ((0, 1),) * 3 + ((0, 2),) * 3, ((0, 1),) * 3 + ((1, 2),) * 3
        self.assertEqual(filling_swap((3, 3, ()), one, other, (0, 2)), (1, 2))
        self.assertIsNone(filling_swap((3, 3, ()), one, other, (0, 1)))

    def test_all_fillings(self):
        swapped = 0
        for frame in small_frames(334, 40):
            good = slow_fillings(frame)[:12]
            fillings = set(slow_fillings(frame))
            for one, other in itertools.product(good, good):
                for pair in all_pairs(frame):
                    due = None
                    if one.count(pair) > other.count(pair):
                        due = min(
                            onto for onto in set(other) if other.count(onto) > one.count(onto)
                            and self.given(one, pair, onto) in fillings and self.given(other, onto, pair) in fillings
                        )
                        swapped += 1
                    self.assertEqual(filling_swap(frame, one, other, pair), due)
        self.assertGreater(swapped, 100)

    def given(self, filling, gone, onto):
        row = list(filling)
        row.remove(gone)
        return tuple(sorted([*row, onto]))

    def test_more_than_forty_joints_and_bars(self):
        frame = (6, 8, (("bar", 0, 1),) * 40)
        one = tuple((0, body) for body in range(2, 8) for _ in range(6))
        other = tuple((1, body) for body in range(2, 8) for _ in range(6))
        self.assertEqual(filling_swap(frame, one, other, (0, 5)), (1, 5))

    def test_errors_in_their_order(self):
        with self.assertRaises(BadFrame):
            filling_swap((3, 2, [1]), None, None, None)
        good = ((0, 2),)
        for value, word in ((None, "form"), ((), "count"), (((0, 2), (0, 2)), "count")):
            for one, other in ((value, None), (good, value)):
                with self.assertRaises(BadFilling) as caught:
                    filling_swap(RING, one, other, None)
                self.assertEqual(caught.exception.word, word)
        with self.assertRaises(BadFilling) as caught:
            filling_swap(PIN, ((0, 1),), ((1, 2),), None)
        self.assertEqual(caught.exception.word, "loose")
        for pair in STRANGE + (0, (), (0,), (0, 1, 2), (1, 0), (0, 4), (0, 0), (-1, 2), [0, 2], (0, True), (Spiteful(), 1)):
            with self.assertRaises(BadPairs) as caught:
                filling_swap(RING, good, good, pair)
            self.assertIs(caught.exception.value, pair)
