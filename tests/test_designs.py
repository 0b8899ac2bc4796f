"""[112]: PRICES, LOWS, cheapest DESIGNS, DESIGN PAPERS."""

import itertools
import unittest

from bodybars.arranging import arranged
from bodybars.designs import cheapest, design_fault, design_paper, lows, need_prices, prices_fault
from bodybars.errors import BadDimension, BadNumber, BadPrices
from tests.helper import KINDS, SIZE, STRANGE, Spiteful, draw_frame, drawn, slow_is_packing, slow_rank_of, times

DEAR = 10 ** 6
HIGH = 4 * 10 ** 7


def sizes_of(dimension):
    return [SIZE[dimension][kind] for kind in KINDS[dimension]]


def slow_designs(dimension, top):
    """All DESIGNS with no more joints than could be needed for TOP."""
    return itertools.product(*[range(top // size + 2) for size in sizes_of(dimension)])


def draw_prices(rng, dimension):
    far = rng.choice((1, 3, 10, DEAR))
    return tuple(rng.randint(1, far) for _ in KINDS[dimension])


class Prices(unittest.TestCase):
    def check(self, dimension, value, fault):
        self.assertEqual(prices_fault(dimension, value), fault)
        if fault is None:
            self.assertEqual(need_prices(dimension, value), value)
            return
        for call in (
            need_prices, lambda d, v: lows(d, 2, v), lambda d, v: cheapest(d, 2, v), lambda d, v: design_paper(d, 2, v),
            lambda d, v: design_fault(d, 2, v, Spiteful()),
        ):
            with self.assertRaises(BadPrices) as caught:
                call(dimension, value)
            self.assertEqual(caught.exception.place, fault)

    def test_prices(self):
        for dimension, kinds in KINDS.items():
            self.check(dimension, (1,) * len(kinds), None)
            self.check(dimension, (DEAR,) * len(kinds), None)
            for value in STRANGE + (0, (), (1,) * (len(kinds) - 1), (1,) * (len(kinds) + 1), [1] * len(kinds)):
                self.check(dimension, value, -1)
            for number in STRANGE + (0, -1, DEAR + 1, 10 ** 999, (1,)):
                self.check(dimension, (number,) + (None,) * (len(kinds) - 1), 0)
                self.check(dimension, (1,) * (len(kinds) - 1) + (number,), len(kinds) - 1)

    def test_errors_in_their_order(self):
        for value in STRANGE + (0, 2, 10 ** 999, (3,)):
            for call in (prices_fault, need_prices):
                with self.assertRaises(BadDimension):
                    call(value, Spiteful())
            for call in (lows, cheapest, design_paper, lambda *args: design_fault(*args, None)):
                with self.assertRaises(BadDimension):
                    call(value, None, None)
        for call in (lows, cheapest, design_paper, lambda *args: design_fault(*args, None)):
            for value in STRANGE + (0, 8, -1, 10 ** 999, (3,)):
                with self.assertRaises(BadNumber) as caught:
                    call(3, value, None)
                self.assertIs(caught.exception.value, value)
            call(6, 7, (1, 1, 1))
            call(3, 1, (1, 1, 1))


class Cheapest(unittest.TestCase):
    def test_lows_and_the_cheapest(self):
        rng = drawn(650)
        for dimension in (1, 3, 6):
            for many in (1, 2, 3, 4, 5):
                top = dimension * (many - 1)
                for _ in range(3):
                    prices = draw_prices(rng, dimension)
                    designs = [
                        (times(design, prices), design, times(design, sizes_of(dimension)))
                        for design in slow_designs(dimension, top)
                    ]
                    row = [min(price for price, _, total in designs if total >= n) for n in range(top + 1)]
                    self.assertEqual(lows(dimension, many, prices), tuple(row))
                    least = min((price, design) for price, design, total in designs if total >= top)
                    self.assertEqual(cheapest(dimension, many, prices), least)

    def test_equal_prices(self):
        self.assertEqual(cheapest(3, 2, (1, 2, 3)), (3, (0, 0, 1)))
        self.assertEqual(cheapest(3, 2, (1, 2, 4)), (3, (1, 1, 0)))
        self.assertEqual(cheapest(3, 3, (1, 2, 3)), (6, (0, 0, 2)))
        self.assertEqual(cheapest(3, 3, (3, 2, 3)), (6, (0, 0, 2)))
        self.assertEqual(cheapest(3, 3, (3, 2, 4)), (6, (0, 3, 0)))
        self.assertEqual(cheapest(6, 2, (1, 5, 7)), (6, (1, 1, 0)))
        self.assertEqual(cheapest(6, 2, (4, 5, 10)), (9, (1, 1, 0)))
        self.assertEqual(cheapest(6, 2, (6, 5, 10)), (10, (0, 0, 1)))
        self.assertEqual(cheapest(1, 7, (1, 1)), (6, (0, 6)))
        self.assertEqual(cheapest(6, 1, (1, 1, 1)), (0, (0, 0, 0)))
        self.assertEqual(cheapest(6, 7, (1, DEAR, DEAR)), (36, (36, 0, 0)))
        self.assertEqual(lows(6, 2, (4, 5, 10)), (0, 4, 5, 5, 5, 5, 9))
        self.assertEqual(lows(1, 1, (4, 5)), (0,))

    def test_no_stiff_frame_costs_less(self):
        rng = drawn(651)
        for _ in range(60):
            dimension = rng.choice((1, 3, 6))
            frame = draw_frame(rng, dimension, rng.randint(2, 4), 9)
            prices = draw_prices(rng, dimension)
            price = sum(prices[KINDS[dimension].index(joint[0])] for joint in frame[2])
            if slow_rank_of(frame) == dimension * (frame[1] - 1):
                self.assertGreaterEqual(price, cheapest(dimension, frame[1], prices)[0])


class Papers(unittest.TestCase):
    def test_papers(self):
        rng = drawn(655)
        for dimension in (1, 3, 6):
            for many in range(1, 8):
                prices = draw_prices(rng, dimension)
                design, frame, packing, row = paper = design_paper(dimension, many, prices)
                self.assertEqual(design, cheapest(dimension, many, prices)[1])
                kinds = tuple(kind for kind, number in zip(KINDS[dimension], design) for _ in range(number))
                self.assertEqual((frame, packing), arranged((dimension, many, kinds)))
                self.assertTrue(slow_is_packing(frame, packing))
                self.assertEqual(row, lows(dimension, many, prices))
                self.assertEqual(design_fault(dimension, many, prices, paper), "")

    def check(self, paper, word, prices=(4, 7, 12)):
        self.assertEqual(design_fault(3, 2, prices, paper), word)

    def test_each_word(self):
        good = design_paper(3, 2, (4, 7, 12))
        self.assertEqual(good, ((1, 1, 0), (3, 2, (("bar", 0, 1), ("pin", 0, 1))), ((0,), (1, 2)), (0, 4, 7, 11)))
        design, frame, packing, row = good
        turned = (3, 2, frame[2][::-1])
        self.check(good, "")
        self.check((design, turned, packing[::-1], row), "")
        for paper in STRANGE + (0, (), good[:3], good + (1,), list(good)):
            self.check(paper, "form")
        for value in STRANGE + (0, (), (1, 1), (1, 1, 0, 0), [1, 1, 0], (1, 1, -1), (1, 41, 0), (1, True, 0), (1, None, 0)):
            self.check((value, frame, packing, row), "form")
        self.check(((40, 40, 40), frame, packing, row), "frame")
        for value in STRANGE + (0, (), (1, 2, ()), (3, 3, frame[2]), (6, 2, ()), [*frame], (3, 2, (("bar", 1, 0),))):
            self.check((design, value, packing, row), "form")
        for value in STRANGE + (
            0, (), row[:3], row + (11,), [*row], (0, 4, 7, -1), (0, 4, 7, HIGH + 1), (0, 4, False, 11), (0, 4, None, 11),
        ):
            self.check((design, frame, packing, value), "form")
        self.check(((1, 0, 0), frame, packing, row), "frame")
        self.check(((1, 1, 1), frame, packing, row), "frame")
        self.check((design, (3, 2, frame[2] + (("bar", 0, 1),)), packing, row), "frame")
        self.check((design, (3, 2, (("pin", 0, 1), ("pin", 0, 1))), packing, row), "frame")
        for value in STRANGE + (0, (), packing[:1], ((0,), (0, 1)), [*packing], ((1, 2), (0,))):
            self.check((design, frame, value, row), "packing")
        self.check((design, turned, packing, row), "packing")
        self.check((design, frame, ((0,), (1,)), row), "count")
        self.check((design, frame, ((), (1, 2)), row), "count")
        for value in (
            (1, 4, 7, 11), (0, 5, 7, 11), (0, 4, 3, 11), (0, 4, 8, 11), (0, 4, 7, 12), (0, 0, 0, 5), (0, 4, 4, 9), (0, 4, 3, 7), (0, 4, 4, 3),
            (0, 4, 7, HIGH), (0, 4, 8, 12),
        ):
            self.check((design, frame, packing, value), "row")
        self.check((design, frame, packing, (0, 4, 7, 10)), "price")
        self.check((design, frame, packing, (0, 3, 7, 11)), "row")
        self.check((design, frame, packing, (0, 3, 6, 10)), "price")
        self.check((design, frame, packing, (0, 4, 4, 7)), "price")
        self.check((design, frame, packing, (0, 0, 0, 0)), "price")
        welded = ((0, 0, 1), (3, 2, (("weld", 0, 1),)), ((0, 1, 2),), row)
        self.check(welded, "price")
        self.check(welded, "", (4, 7, 11))
        bars = ((3, 0, 0), (3, 2, (("bar", 0, 1),) * 3), ((0,), (1,), (2,)), row)
        self.check(bars, "price")

    def test_rises_beyond_the_end(self):
        # The number at the last place is at most that at each place near enough, plus the price.
        frame = (3, 2, (("weld", 0, 1),))
        for row, word in (((0, 1, 1, 5), ""), ((0, 1, 1, 6), "row"), ((0, 2, 2, 5), ""), ((0, 1, 2, 5), "")):
            self.assertEqual(design_fault(3, 2, (9, 4, 5), ((0, 0, 1), frame, ((0, 1, 2),), row)), word)
        frame = (3, 2, (("pin", 0, 1), ("pin", 0, 1)))
        for row, word in (((0, 2, 2, 4), ""), ((0, 1, 2, 4), "row"), ((0, 2, 3, 4), "row"), ((0, 0, 0, 2), "price")):
            self.assertEqual(design_fault(3, 2, (9, 2, 5), ((0, 2, 0), frame, ((0, 1), (2,)), row)), word)

    def test_the_first_of_several(self):
        design, frame, packing, row = design_paper(3, 2, (4, 7, 12))
        self.check((design, frame, Spiteful(), [*row]), "form")
        self.check(((1, 0, 0), frame, Spiteful(), (1, 0, 0, 0)), "frame")
        self.check((design, frame, Spiteful(), (1, 0, 0, 0)), "packing")
        self.check((design, frame, ((), ()), (1, 0, 0, 0)), "count")
        self.check((design, frame, packing, (1, 4, 7, 12)), "row")

    def test_one_body(self):
        self.assertEqual(design_paper(6, 1, (1, 2, 3)), ((0, 0, 0), (6, 1, ()), (), (0,)))
        for row, word in (((0,), ""), ((1,), "row"), ((), "form")):
            self.assertEqual(design_fault(6, 1, (1, 2, 3), ((0, 0, 0), (6, 1, ()), (), row)), word)
