"""[71], [72], [77]: the greedy TALLY, cheapest TALLIES, swaps that cost less, the dearest cost."""

import unittest

from bodybars.cheapest import better_swap, dearest_used, greedy_tally, is_cheapest, least_price
from bodybars.costs import cheap_part
from bodybars.errors import BadCosts, BadFrame, BadTally, NotGreatest
from bodybars.woods import rank_of
from tests.helper import (
    FRAMES, SIZE, all_tallies, draw_frame, draw_frames, drawn, slow_greatest_tallies, slow_is_met, slow_rank_of,
    tally_frames, times,
)

DEAR = 10 ** 6
LONE = (3, 1, ())
BARE = (6, 4, ())
BARS = (3, 2, (("bar", 0, 1),) * 5)


def costed_frames(seed, tries, most=300):
    """Small frames with COSTS of which several are often equal."""
    rng = drawn(seed)
    for frame in tally_frames(seed + 1, tries, most):
        far = rng.choice((1, 2, 3, 9, DEAR))
        yield frame, tuple(rng.randint(1, far) for _ in frame[2])


def slow_greedy(frame, marks):
    """The greedy TALLY by its words, the joints in the order of their marks."""
    tally = [0] * len(frame[2])
    for _, joint in sorted((mark, joint) for joint, mark in enumerate(marks)):
        for number in range(SIZE[frame[0]][frame[2][joint][0]], -1, -1):
            tally[joint] = number
            if slow_is_met(frame, tally):
                break
    return tuple(tally)


def passed(tally, joint, onto):
    return tuple(number - (at == joint) + (at == onto) for at, number in enumerate(tally))


def slow_swap(frame, costs, tally):
    """The first pair of [72]."""
    for joint in range(len(tally)):
        for onto in range(len(tally)):
            if costs[onto] < costs[joint]:
                changed = passed(tally, joint, onto)
                whole = all(0 <= n <= SIZE[frame[0]][j[0]] for n, j in zip(changed, frame[2]))
                if whole and slow_is_met(frame, changed):
                    return (joint, onto)
    return None


class Cheapest(unittest.TestCase):
    def test_greedy_tallies(self):
        for frame, costs in costed_frames(400, 60):
            tally = greedy_tally(frame, costs)
            self.assertEqual(tally, slow_greedy(frame, costs))
            prices = [times(costs, other) for other in slow_greatest_tallies(frame)]
            self.assertEqual(times(costs, tally), min(prices))
            self.assertEqual(least_price(frame, costs), min(prices))

    def test_equal_costs_in_the_order_of_the_joints(self):
        self.assertEqual(greedy_tally(BARS, (2, 2, 2, 2, 2)), (1, 1, 1, 0, 0))
        self.assertEqual(greedy_tally(BARS, (2, 2, 1, 2, 1)), (1, 0, 1, 0, 1))
        self.assertEqual(greedy_tally(BARS, (9, 2, DEAR, 3, 2)), (0, 1, 0, 1, 1))
        pins = (3, 2, (("pin", 0, 1), ("weld", 0, 1), ("pin", 0, 1)))
        self.assertEqual(greedy_tally(pins, (4, 4, 4)), (2, 1, 0))
        self.assertEqual(greedy_tally(pins, (4, 5, 4)), (2, 0, 1))
        self.assertEqual(greedy_tally(pins, (4, 3, 4)), (0, 3, 0))
        self.assertEqual(least_price(pins, (4, 5, 4)), 12)
        self.assertEqual(least_price(pins, (5, 4, 3)), 3 * 2 + 4)

    def test_the_least_price_by_levels(self):
        rng = drawn(402)
        for frame in [*FRAMES[:10], *draw_frames(403, 25, 5, 12)]:
            if frame[1] > 6:
                continue
            costs = tuple(rng.randint(1, 6) for _ in frame[2])
            levels = sorted(set(costs))
            price = levels[-1] * slow_rank_of(frame) if levels else 0
            for level, onto in zip(levels, levels[1:]):
                price -= slow_rank_of(cheap_part(frame, costs, level)) * (onto - level)
            self.assertEqual(least_price(frame, costs), price)
            tally = greedy_tally(frame, costs)
            self.assertEqual(times(costs, tally), price)
            self.assertEqual(sum(tally), slow_rank_of(frame))

    def test_which_tallies_are_cheapest(self):
        words = []
        for frame, costs in costed_frames(404, 45, 150):
            greatest = slow_greatest_tallies(frame)
            least = min(times(costs, tally) for tally in greatest)
            for tally in all_tallies(frame):
                good = tally in greatest and times(costs, tally) == least
                self.assertIs(is_cheapest(frame, costs, tally), good)
                words.append(good)
        self.assertGreater(min(words.count(True), words.count(False)), 100)

    def test_what_costs_as_much_but_is_not_greatest(self):
        frame = (1, 3, (("bar", 0, 1), ("bar", 0, 1), ("bar", 1, 2)))
        self.assertIs(is_cheapest(frame, (1, 1, 1), (1, 1, 0)), False)
        self.assertIs(is_cheapest(frame, (1, 1, 1), (1, 0, 1)), True)
        self.assertIs(is_cheapest(frame, (1, 1, 2), (1, 1, 0)), False)
        self.assertIs(is_cheapest(frame, (2, 2, 4), (1, 1, 1)), False)

    def test_the_first_swap(self):
        kinds = set()
        for frame, costs in costed_frames(405, 50, 120):
            greatest = slow_greatest_tallies(frame)
            for tally in all_tallies(frame):
                if tally not in greatest:
                    with self.assertRaises(NotGreatest):
                        better_swap(frame, costs, tally)
                    continue
                told = better_swap(frame, costs, tally)
                self.assertEqual(told, slow_swap(frame, costs, tally))
                self.assertEqual(told is None, is_cheapest(frame, costs, tally))
                kinds.add(told)
        self.assertGreater(len(kinds), 8)

    def test_the_first_swap_by_both(self):
        self.assertEqual(better_swap(BARS, (1, 5, 2, 4, 3), (0, 1, 0, 1, 1)), (1, 0))
        self.assertEqual(better_swap(BARS, (5, 5, 2, 4, 3), (0, 1, 0, 1, 1)), (1, 2))
        self.assertEqual(better_swap(BARS, (5, 3, 2, 4, 3), (0, 1, 1, 1, 0)), (3, 4))
        self.assertIsNone(better_swap(BARS, (5, 3, 2, 4, 3), (0, 1, 1, 0, 1)))
        self.assertIsNone(better_swap(BARS, (7,) * 5, (0, 1, 1, 0, 1)))

    def test_swaps_until_it_is_cheapest(self):
        rng = drawn(406)
        for dimension in (1, 3, 6):
            frame = draw_frame(rng, dimension, 8, 40)
            costs = tuple(rng.randint(1, 50) for _ in frame[2])
            tally = greedy_tally(frame, tuple(51 - cost for cost in costs))
            pair = better_swap(frame, costs, tally)
            while pair is not None:
                self.assertLess(costs[pair[1]], costs[pair[0]])
                tally = passed(tally, *pair)
                pair = better_swap(frame, costs, tally)
            self.assertEqual(times(costs, tally), least_price(frame, costs))
            self.assertIs(is_cheapest(frame, costs, tally), True)

    def test_dearest_costs(self):
        self.assertEqual(dearest_used(BARS, (1, 5, 2, 4, 3)), 3)
        self.assertEqual(dearest_used(BARS, (DEAR,) * 5), DEAR)
        for frame, costs in costed_frames(407, 40, 150):
            told = dearest_used(frame, costs)
            if not frame[2]:
                self.assertIsNone(told)
                continue
            rank = rank_of(frame)
            self.assertEqual(rank_of(cheap_part(frame, costs, told)), rank)
            self.assertIn(told, costs)
            if told > 1:
                self.assertLess(rank_of(cheap_part(frame, costs, told - 1)), rank)
            for tally in slow_greatest_tallies(frame):
                self.assertTrue(any(number and cost >= told for number, cost in zip(tally, costs)))

    def test_without_joints(self):
        for frame in (LONE, BARE, (1, 8, ())):
            self.assertEqual(greedy_tally(frame, ()), ())
            self.assertEqual(least_price(frame, ()), 0)
            self.assertIs(is_cheapest(frame, (), ()), True)
            self.assertIsNone(better_swap(frame, (), ()))
            self.assertIsNone(dearest_used(frame, ()))

    def test_errors_in_their_order(self):
        for call in (greedy_tally, least_price, dearest_used):
            with self.assertRaises(BadFrame):
                call((3, 2, [1]), None)
            for costs, place in ((None, -1), ((1,) * 4, -1), ((1, 0, 1, 1, 0), 1), ((1, 1, 1, 1, True), 4)):
                with self.assertRaises(BadCosts) as caught:
                    call(BARS, costs)
                self.assertEqual(caught.exception.place, place)
        for call in (is_cheapest, better_swap):
            with self.assertRaises(BadFrame):
                call((3, 2, [1]), None, None)
            with self.assertRaises(BadCosts):
                call(BARS, (1, 1, 1, 1, DEAR + 1), None)
            for tally, place in ((None, -1), ((1,) * 4, -1), ((1, 2, 0, 0, 0), 1), ((1, 1, 1, 0, False), 4)):
                with self.assertRaises(BadTally) as caught:
                    call(BARS, (1,) * 5, tally)
                self.assertEqual(caught.exception.place, place)
        for tally in ((1, 1, 1, 1, 0), (1, 1, 0, 0, 0), (0,) * 5):
            self.assertIs(is_cheapest(BARS, (1,) * 5, tally), False)
            with self.assertRaises(NotGreatest):
                better_swap(BARS, (1,) * 5, tally)
