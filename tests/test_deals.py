"""[92]: DEALS, their SIGNS, DEALS of a PACKING."""

import itertools
import math
import unittest

from bodybars.deals import deal_fault, deal_sign, deal_sum, deals, deals_of
from bodybars.errors import BadDeal, BadFrame, BadPacking, BadPlacement, NotSquare, TooGreat
from bodybars.pures import pure
from bodybars.woods import free_of, greatest_packing
from tests.helper import STRANGE, Spiteful, draw_placement, drawn, is_wood
from tests.squarehelp import (
    NOT_SQUARE, TRIANGLE, all_ends, all_rows, draw_square, placed_squares, slow_determinant, slow_sign, square_frames,
    stiff_square_frames,
)

MOST = {1: 6, 3: 4, 6: 2}
SMALL = {1: 6, 3: 3, 6: 2}
PLACES = ((0, 0), (4, 1), (2, 7))


def slow_is_deal(frame, deal):
    ends = all_ends(frame)
    return all(
        is_wood(frame[1], [pair for pair, its in zip(ends, deal) if its == number]) for number in range(frame[0])
    )


def slow_deal_sign(frame, deal):
    """The SIGN, by its words."""
    dimension, many, _ = frame
    ends = all_ends(frame)
    sign = slow_sign([row for number in range(dimension) for row, its in enumerate(deal) if its == number])
    for number in range(dimension):
        table = []
        for (a, b), its in zip(ends, deal):
            if its == number:
                table.append([(body == a) - (body == b) for body in range(1, many)])
        sign *= slow_determinant(table)
    return sign * (-1) ** (dimension * (dimension - 1) // 2 * ((many - 1) * (many - 2) // 2))


class Deals(unittest.TestCase):
    def test_all_of_them(self):
        many = set()
        for frame in square_frames(580, 12, SMALL):
            told = deals(frame)
            if frame[0] == 6 and frame[1] == 2:
                slow = list(itertools.permutations(range(6)))
            else:
                rows = itertools.product(range(frame[0]), repeat=len(all_ends(frame)))
                slow = [deal for deal in rows if slow_is_deal(frame, deal)]
            self.assertEqual(list(told), slow)
            many.add((frame[0], len(told)))
            for deal in told[:12]:
                self.assertIsNone(deal_fault(frame, deal))
                self.assertEqual(deal_sign(frame, deal), slow_deal_sign(frame, deal))
            # There is one exactly if FREE is 0.
            self.assertEqual(told != (), free_of(frame) == 0)
        self.assertGreaterEqual(len(many), 8)

    def test_four_bodies_of_the_plane(self):
        rng = drawn(581)
        for _ in range(3):
            frame = draw_square(rng, 3, 4)
            told = deals(frame)
            self.assertEqual(list(told), sorted(set(told)))
            self.assertTrue(all(slow_is_deal(frame, deal) for deal in told))
        chain = (3, 4, (("weld", 0, 1), ("weld", 1, 2), ("weld", 2, 3)))
        self.assertEqual(len(deals(chain)), 6 ** 3)

    def test_the_sum_is_pure(self):
        seen = set()
        for frame, placement in placed_squares(582, 14, MOST):
            told = deal_sum(frame, placement)
            self.assertEqual(told, pure(frame, placement))
            rows = all_rows(frame, placement)
            if len(deals(frame)) < 200:
                due = 0
                for deal in deals(frame):
                    due += slow_deal_sign(frame, deal) * math.prod(row[at] for row, at in zip(rows, deal))
                self.assertEqual(told, due)
            seen.add((frame[0], told != 0))
        self.assertEqual(len(seen), 6)

    def test_examples(self):
        self.assertEqual(deals((1, 1, ())), ((),))
        self.assertEqual(deal_sign((1, 1, ()), ()), 1)
        self.assertEqual(deal_sum((6, 1, ()), ()), 1)
        self.assertEqual(deals((1, 3, (("bar", 0, 1), ("weld", 0, 1)))), ())
        self.assertEqual(deal_sum((1, 3, (("bar", 0, 1), ("weld", 0, 1))), ((), ())), 0)
        self.assertEqual(deals((3, 2, (("weld", 0, 1),))), tuple(itertools.permutations(range(3))))
        # With two bodies PURE is the determinant of the rows, but for (-1) ** D.
        self.assertEqual(deal_sign((3, 2, (("weld", 0, 1),)), (0, 1, 2)), -1)
        self.assertEqual(deal_sign((3, 2, (("weld", 0, 1),)), (1, 0, 2)), 1)
        self.assertEqual(deal_sign((6, 2, (("weld", 0, 1),)), (0, 1, 2, 3, 4, 5)), 1)

    def test_those_of_a_packing(self):
        for frame in stiff_square_frames(583, 20, MOST):
            packing = greatest_packing(frame)
            told = deals_of(frame, packing)
            rows = [[*itertools.permutations(numbers)] for numbers in packing]
            due = sorted(sum(row, ()) for row in itertools.product(*rows))
            self.assertEqual(list(told), due)
            self.assertEqual(len(told), math.prod(math.factorial(len(numbers)) for numbers in packing))
            if len(told) < 40:
                self.assertLessEqual(set(told), set(deals(frame)))

    def test_no_greatest_packing(self):
        for packing in (((), (), ()), ((0, 1), (0, 2), (1,)), ((0,), (0, 2), (1, 2))):
            with self.assertRaises(BadPacking) as caught:
                deals_of(TRIANGLE, packing)
            self.assertEqual(caught.exception.place, ())
        loose = (3, 3, (("weld", 0, 1), ("weld", 0, 1)))
        with self.assertRaises(BadPacking) as caught:
            deals_of(loose, greatest_packing(loose))
        self.assertEqual(caught.exception.place, ())
        for packing, place in ((None, ()), (((0, 1), (0, 2)), ()), (((0, 1), (0, 1), (0, 2)), (2, 0)), (((1, 0), (), ()), (0, 1))):
            with self.assertRaises(BadPacking) as caught:
                deals_of(TRIANGLE, packing)
            self.assertEqual(caught.exception.place, place)
        self.assertEqual(deals_of((6, 1, ()), ()), ((),))

    def test_bounds(self):
        for dimension, most in MOST.items():
            chain = tuple(("weld", body, body + 1) for body in range(most))
            fits, beyond = (dimension, most, chain[:-1]), (dimension, most + 1, chain)
            self.assertEqual(len(deals(fits)), math.factorial(dimension) ** (most - 1))
            full = (tuple(range(dimension)),) * most
            for call in (deals, lambda frame: deal_sum(frame, ((),) * most), lambda frame: deals_of(frame, None)):
                with self.assertRaises(TooGreat) as caught:
                    call(beyond)
                self.assertEqual(caught.exception.most, most)
            self.assertEqual(len(deals_of(fits, full[1:])), math.factorial(dimension) ** (most - 1))
            deal = tuple(range(dimension)) * most
            self.assertIsNone(deal_fault(beyond, deal))
            self.assertEqual(deal_sign(beyond, deal), slow_deal_sign(beyond, deal))


class Faults(unittest.TestCase):
    def check(self, value, fault):
        self.assertEqual(deal_fault(TRIANGLE, value), fault)
        if fault is None:
            return
        with self.assertRaises(BadDeal) as caught:
            deal_sign(TRIANGLE, value)
        self.assertEqual(caught.exception.place, fault)

    def test_deals_that_are_bent(self):
        good = (0, 1, 0, 2, 1, 2)
        self.check(good, None)
        for value in STRANGE + (0, (), good[:5], good + (2,), [*good]):
            self.check(value, -1)
        for number in STRANGE + (-1, 3, 10 ** 999, (1,)):
            for at in range(6):
                self.check(good[:at] + (number,) + (None,) * (5 - at), at)
        self.check((0, 0, None, None, None, None), 1)
        self.check((0, 1, 2, 2, None, None), 3)
        self.check((0, 1, 0, 1, 0, Spiteful()), 4)
        self.check((0, 1, 0, 1, 1, 2), 4)
        self.check((0, 1, 0, 2, 1, 1), 5)
        self.check((0, 1, 0, 2, 2, 2), 5)

    def test_each_row_bent(self):
        rng = drawn(585)
        for frame in square_frames(586, 8, SMALL):
            told = deals(frame)
            for deal in told[:3]:
                for at in range(len(deal)):
                    bent = deal[:at] + (rng.randrange(-1, frame[0] + 1),) + deal[at + 1:]
                    due = None
                    for row in range(len(bent)):
                        if not 0 <= bent[row] < frame[0] or not slow_is_deal(frame, bent[:row + 1]):
                            due = row
                            break
                    self.assertEqual(deal_fault(frame, bent), due)
                    self.assertEqual(due is None, bent in told)

    def test_errors_in_their_order(self):
        calls = (
            deals, lambda frame: deal_fault(frame, Spiteful()), lambda frame: deal_sign(frame, None),
            lambda frame: deals_of(frame, None),
        )
        for call in calls:
            with self.assertRaises(BadFrame):
                call((3, 2, [1]))
        with self.assertRaises(BadFrame):
            deal_sum((3, 2, [1]), None)
        for placement, fault in ((None, -1), ((PLACES[0], Spiteful(), None), 1)):
            with self.assertRaises(BadPlacement) as caught:
                deal_sum(TRIANGLE, placement)
            self.assertEqual(caught.exception.number, fault)
        for frame, rows, due in NOT_SQUARE:
            with self.assertRaises(BadPlacement):
                deal_sum(frame, None)
            for call in (*calls, lambda frame: deal_sum(frame, draw_placement(drawn(1), frame))):
                if rows != due:
                    with self.assertRaises(NotSquare) as caught:
                        call(frame)
                    self.assertEqual((caught.exception.rows, caught.exception.due), (rows, due))
        for call in (deals, lambda frame: deal_sum(frame, ()), lambda frame: deals_of(frame, None)):
            with self.assertRaises(NotSquare):
                call((1, 7, ()))
