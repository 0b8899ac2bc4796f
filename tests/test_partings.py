"""[12], [31], [32], [33]: PARTINGS, their numbers, finer, common and joined ones."""

import itertools
import unittest

from bodybars.errors import BadNumber, BadParting
from bodybars.lattice import common_parting, is_finer, joined_parting
from bodybars.partingnumbers import all_partings, number_of_parting, parting_at, partings_number
from bodybars.partings import lot_count, lots_of, need_parting, parting_fault, parting_of
from tests.helper import STRANGE, Spiteful, draw_parting, drawn, lots_from, slow_partings

BELL = (1, 2, 5, 15, 52, 203, 877, 4140)
NO_PARTING = STRANGE + ((), (0,) * 9, 0)


class Faults(unittest.TestCase):
    def test_partings_have_none(self):
        for many in range(1, 7):
            for parting in slow_partings(many):
                self.assertIsNone(parting_fault(many, parting))
                self.assertEqual(need_parting(many, parting), parting)

    def test_no_tuple_of_so_many(self):
        for value in STRANGE + ((), (0, 0), (0, 0, 0, 0), [0, 0, 0]):
            self.check(3, value, -1)

    def check(self, many, value, place):
        self.assertEqual(parting_fault(many, value), place)
        with self.assertRaises(BadParting) as caught:
            need_parting(many, value)
        self.assertEqual(caught.exception.place, place)

    def test_each_place(self):
        for value in STRANGE + (-1, 1, 10 ** 999, ()):
            self.check(3, (value, None, None), 0)
        for value in STRANGE + (-1, 2, ()):
            self.check(3, (0, value, None), 1)
        for value in STRANGE + (-1, 2, ()):
            self.check(3, (0, 0, value), 2)
        self.check(3, (0, 1, 3), 2)
        self.check(8, (0, 1, 2, 3, 4, 5, 6, 8), 7)
        self.check(4, (0, 2, 1, 9), 1)

    def test_all_small_tuples(self):
        for many in range(1, 5):
            good = slow_partings(many)
            for value in itertools.product(range(-1, many + 1), repeat=many):
                fault = parting_fault(many, value)
                self.assertEqual(fault is None, value in good)
                if fault is not None:
                    self.assertIn(value[:fault], [parting[:fault] for parting in good])
                    self.assertNotIn(value[:fault + 1], [parting[:fault + 1] for parting in good])

    def test_many(self):
        for many in STRANGE + (0, 9, -1):
            with self.assertRaises(BadNumber) as caught:
                parting_fault(many, Spiteful())
            self.assertIs(caught.exception.value, many)


class Lots(unittest.TestCase):
    def test_parting_of(self):
        self.assertEqual(parting_of((7, -3, 7, 10 ** 5000, -3)), (0, 1, 0, 2, 1))
        self.assertEqual(parting_of((5,)), (0,))
        for many in range(1, 5):
            for marks in itertools.product((-1, 0, 2), repeat=many):
                self.assertEqual(parting_of(marks), lots_from(marks))

    def test_parting_of_no_marks(self):
        for marks, place in (
            *((value, -1) for value in STRANGE), ((), -1), ((1,) * 9, -1), ((None,) * 9, -1), ([1, 2], -1),
            *(((value, None), 0) for value in STRANGE), ((1, True), 1), ((1, 2, "3", None), 2), ((1, (2,)), 1),
        ):
            with self.assertRaises(BadParting) as caught:
                parting_of(marks)
            self.assertEqual(caught.exception.place, place)

    def test_lots(self):
        self.assertEqual(lots_of((0, 1, 0, 2, 1)), ((0, 2), (1, 4), (3,)))
        self.assertEqual(lots_of((0,)), ((0,),))
        for many in range(1, 7):
            for parting in slow_partings(many):
                lots = lots_of(parting)
                self.assertEqual(lot_count(parting), len(lots))
                self.assertEqual(sorted(body for lot in lots for body in lot), list(range(many)))
                for number, lot in enumerate(lots):
                    self.assertEqual(list(lot), sorted(lot))
                    self.assertEqual({parting[body] for body in lot}, {number})

    def test_a_lone_parting_is_asked(self):
        for function in (lots_of, lot_count, number_of_parting):
            for value, place in (*((value, -1) for value in NO_PARTING), ((1,), 0), ((0, 0, 2), 2), ((0, True), 1)):
                with self.assertRaises(BadParting) as caught:
                    function(value)
                self.assertEqual(caught.exception.place, place)


class Numbers(unittest.TestCase):
    def test_all_partings_ascending_there_and_back(self):
        for many in range(1, 9):
            told = all_partings(many)
            self.assertEqual(len(told), BELL[many - 1])
            self.assertEqual(partings_number(many), BELL[many - 1])
            self.assertEqual(list(told), sorted(set(told)))
            if many < 7:
                self.assertEqual(tuple(told), slow_partings(many))
            for number, parting in enumerate(told):
                self.assertEqual(parting_at(many, number), parting)
                self.assertEqual(number_of_parting(parting), number)
                self.assertIsNone(parting_fault(many, parting))

    def test_no_such_number(self):
        for many in range(1, 9):
            for number in STRANGE + (-1, BELL[many - 1], 10 ** 999, (0,)):
                with self.assertRaises(BadNumber) as caught:
                    parting_at(many, number)
                self.assertIs(caught.exception.value, number)

    def test_many_comes_first(self):
        for many in STRANGE + (0, 9, -1, (3,)):
            for call in (partings_number, all_partings, lambda many: parting_at(many, None)):
                with self.assertRaises(BadNumber) as caught:
                    call(many)
                self.assertIs(caught.exception.value, many)


class Lattice(unittest.TestCase):
    def together(self, parting):
        pairs = itertools.combinations(range(len(parting)), 2)
        return {pair for pair in pairs if parting[pair[0]] == parting[pair[1]]}

    def check(self, one, other, partings):
        common, joined = common_parting(one, other), joined_parting(one, other)
        self.assertIs(is_finer(one, other), self.together(one) <= self.together(other))
        self.assertEqual(self.together(common), self.together(one) & self.together(other))
        above = [p for p in partings if self.together(p) >= self.together(one) | self.together(other)]
        self.assertIn(joined, above)
        for parting in above:
            self.assertTrue(self.together(joined) <= self.together(parting))
        self.assertGreaterEqual(lot_count(common) + lot_count(joined), lot_count(one) + lot_count(other))
        for parting in (common, joined):
            self.assertIsNone(parting_fault(len(one), parting))

    def test_all_small_ones(self):
        for many in range(1, 5):
            partings = slow_partings(many)
            for one, other in itertools.product(partings, repeat=2):
                self.check(one, other, partings)

    def test_drawn_ones(self):
        rng = drawn(4)
        for many in (5, 6):
            partings = slow_partings(many)
            for _ in range(30):
                self.check(draw_parting(rng, many), draw_parting(rng, many), partings)
        for _ in range(200):
            one, other = draw_parting(rng, 8), draw_parting(rng, 8)
            common, joined = common_parting(one, other), joined_parting(one, other)
            for coarser in (one, other):
                self.assertTrue(is_finer(common, coarser))
                self.assertTrue(is_finer(coarser, joined))
            self.assertGreaterEqual(lot_count(common) + lot_count(joined), lot_count(one) + lot_count(other))

    def test_a_row_of_neighbours(self):
        self.assertEqual(joined_parting((0, 0, 1, 1, 2, 2, 3, 3), (0, 1, 1, 2, 2, 3, 3, 4)), (0,) * 8)
        self.assertEqual(joined_parting((0, 1, 2, 0), (0, 1, 1, 2)), (0, 1, 1, 0))
        self.assertEqual(common_parting((0, 0, 0, 1), (0, 1, 0, 0)), (0, 1, 0, 2))

    def test_wrong_ones(self):
        for function in (is_finer, common_parting, joined_parting):
            for one, other, place in (
                *((value, None, -1) for value in NO_PARTING), ((0, 2), None, 1), ((0, 2), (1, 1), 1),
                *(((0, 0), value, -1) for value in NO_PARTING), ((0, 0), (0,), -1), ((0, 0), (0, 0, 0), -1),
                ((0, 0), (1, 0), 0), ((0, 0, 0), (0, 1, 3), 2), ((0, 0), (0, True), 1),
            ):
                with self.assertRaises(BadParting) as caught:
                    function(one, other)
                self.assertEqual(caught.exception.place, place)
