"""[71]: COSTS, PRICES, LEVELS, cheap parts."""

import unittest

from bodybars.costs import cheap_part, costs_fault, levels_of, need_costs, price_of
from bodybars.errors import BadCosts, BadFrame, BadNumber, BadTally
from bodybars.woodways import tally_of
from tests.helper import STRANGE, Spiteful, draw_frames, draw_packing, drawn

DEAR = 10 ** 6
FRAME = (3, 3, (("pin", 0, 1), ("bar", 1, 2), ("weld", 0, 2)))
COSTS = (5, 2, 5)
LINE = (3, 1, ())


class Costs(unittest.TestCase):
    def check(self, value, fault):
        self.assertEqual(costs_fault(FRAME, value), fault)
        if fault is None:
            self.assertEqual(need_costs(FRAME, value), value)
            return
        for call in (
            lambda: need_costs(FRAME, value), lambda: price_of(FRAME, value, None), lambda: levels_of(FRAME, value),
            lambda: cheap_part(FRAME, value, None),
        ):
            with self.assertRaises(BadCosts) as caught:
                call()
            self.assertEqual(caught.exception.place, fault)

    def test_costs(self):
        for value in (COSTS, (1, 1, 1), (DEAR, DEAR, DEAR), (1, DEAR, 7)):
            self.check(value, None)
        self.assertIsNone(costs_fault(LINE, ()))

    def test_no_costs(self):
        for value in STRANGE + (0, (), (1, 1), (1, 1, 1, 1), [1, 1, 1]):
            self.check(value, -1)
        self.assertEqual(costs_fault(LINE, (1,)), -1)
        for number in STRANGE + (0, -1, DEAR + 1, 10 ** 999, (1,)):
            self.check((number, None, None), 0)
            self.check((1, number, Spiteful()), 1)
            self.check((1, DEAR, number), 2)

    def test_prices(self):
        self.assertEqual(price_of(FRAME, COSTS, (2, 1, 3)), 27)
        self.assertEqual(price_of(FRAME, COSTS, (0, 0, 0)), 0)
        self.assertEqual(price_of(FRAME, (DEAR, 1, DEAR), (2, 1, 3)), 5 * DEAR + 1)
        self.assertEqual(price_of(LINE, (), ()), 0)
        for tally, place in ((None, -1), ((0, 0), -1), ((3, 0, 0), 0), ((2, True, 0), 1), ((2, 1, 4), 2)):
            with self.assertRaises(BadTally) as caught:
                price_of(FRAME, COSTS, tally)
            self.assertEqual(caught.exception.place, place)

    def test_levels(self):
        self.assertEqual(levels_of(FRAME, COSTS), (2, 5))
        self.assertEqual(levels_of(FRAME, (7, 7, 7)), (7,))
        self.assertEqual(levels_of(FRAME, (DEAR, 1, 40)), (1, 40, DEAR))
        self.assertEqual(levels_of(LINE, ()), ())

    def test_cheap_parts(self):
        self.assertEqual(cheap_part(FRAME, COSTS, 1), (3, 3, ()))
        self.assertEqual(cheap_part(FRAME, COSTS, 2), (3, 3, (("bar", 1, 2),)))
        self.assertEqual(cheap_part(FRAME, COSTS, 4), (3, 3, (("bar", 1, 2),)))
        self.assertEqual(cheap_part(FRAME, COSTS, 5), FRAME)
        self.assertEqual(cheap_part(FRAME, COSTS, DEAR), FRAME)
        self.assertEqual(cheap_part(LINE, (), 1), LINE)
        for cost in STRANGE + (0, -1, DEAR + 1, 10 ** 999, (1,)):
            with self.assertRaises(BadNumber) as caught:
                cheap_part(FRAME, COSTS, cost)
            self.assertIs(caught.exception.value, cost)

    def test_drawn_ones(self):
        rng = drawn(341)
        for frame in draw_frames(342, 60, 8, 40):
            costs = tuple(rng.randint(1, 9) for _ in frame[2])
            tally = tally_of(frame, draw_packing(rng, frame))
            self.assertEqual(price_of(frame, costs, tally), sum(costs[at] * number for at, number in enumerate(tally)))
            levels = levels_of(frame, costs)
            self.assertEqual(list(levels), sorted({*costs}))
            for cost in range(1, 10):
                cheap = tuple(joint for joint, number in zip(frame[2], costs) if number <= cost)
                self.assertEqual(cheap_part(frame, costs, cost), (*frame[:2], cheap))

    def test_frames_come_first(self):
        for call in (
            lambda frame: costs_fault(frame, Spiteful()), lambda frame: need_costs(frame, None),
            lambda frame: price_of(frame, None, None), lambda frame: levels_of(frame, None),
            lambda frame: cheap_part(frame, None, None),
        ):
            with self.assertRaises(BadFrame):
                call((3, 2, [1]))
