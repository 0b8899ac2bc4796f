"""[140] to [142]: ROW LISTS, REDUCED lists, ROW RANK, NULL ROWS, kept rows, determinants."""

import itertools
import math
import unittest

from bodybars.errors import BadRows, BadWidth
from bodybars.rows import determinant, kept_rows, need_rows, null_rows, reduced, row_rank
from tests.helper import STRANGE, Spiteful, drawn, slow_null, slow_rank, slow_reduced, times

GREAT = 10 ** 999
FIVE = (need_rows, reduced, row_rank, null_rows, kept_rows)


def draw_list(rng, most=6, wide=None):
    """A ROW LIST whose rows often hang together, with its width."""
    wide = rng.randint(1, most) if wide is None else wide
    rows = []
    far = rng.choice((1, 3, 10 ** 12))
    for _ in range(rng.randint(0, most)):
        kind = rng.randrange(4)
        if kind == 0 and len(rows) > 1:
            one, other = rng.sample(rows, 2)
            row = tuple(rng.randint(-2, 2) * a + 3 * b for a, b in zip(one, other))
        elif kind == 1:
            row = tuple(rng.choice((0, 0, 1, -1)) for _ in range(wide))
        else:
            row = tuple(rng.randint(-far, far) for _ in range(wide))
        rows.append(row)
    return tuple(rows), wide


def slow_determinant(rows):
    """The sum over all orders."""
    total = 0
    for order in itertools.permutations(range(len(rows))):
        turns = sum(order[at] > order[beyond] for at, beyond in itertools.combinations(range(len(rows)), 2))
        total += (-1) ** turns * math.prod(rows[at][place] for at, place in enumerate(order))
    return total


def units(wide, many=None):
    return tuple(tuple(int(place == at) for place in range(wide)) for at in range(wide if many is None else many))


class Reduced(unittest.TestCase):
    def test_examples(self):
        self.assertEqual(reduced(((2, 4, 6),), 3), ((1, 2, 3),))
        self.assertEqual(reduced(((0, -2, 3),), 3), ((0, 2, -3),))
        self.assertEqual(reduced(((2, 4), (3, 6)), 2), ((1, 2),))
        self.assertEqual(reduced(((0, 0, 5), (0, 3, 1), (2, 1, 1)), 3), units(3))
        self.assertEqual(reduced(((1, 1, 1, 1), (1, 2, 3, 4)), 4), ((1, 0, -1, -2), (0, 1, 2, 3)))
        self.assertEqual(reduced(((2, 0, 1), (0, 3, 1)), 3), ((2, 0, 1), (0, 3, 1)))
        self.assertEqual(reduced(((4, 6, 10), (0, 0, 0)), 3), ((2, 3, 5),))
        self.assertEqual(reduced((), 3), ())
        self.assertEqual(reduced(((0, 0),), 2), ())

    def test_the_form_and_the_span(self):
        rng = drawn(111)
        for _ in range(400):
            rows, wide = draw_list(rng)
            told = reduced(rows, wide)
            leads = []
            for row in told:
                self.assertEqual(len(row), wide)
                lead = next(place for place in range(wide) if row[place] != 0)
                self.assertGreater(row[lead], 0)
                self.assertEqual([other[lead] for other in told if other is not row], [0] * (len(told) - 1))
                self.assertEqual(math.gcd(*row), 1)
                leads.append(lead)
            self.assertEqual(leads, sorted(set(leads)))
            self.assertEqual(slow_rank(rows + told, wide), len(told))
            self.assertEqual(slow_rank(rows, wide), len(told))
            self.assertEqual(told, slow_reduced(rows, wide))
            self.assertEqual(reduced(told, wide), told)

    def test_lists_of_one_span(self):
        rng = drawn(112)
        for _ in range(200):
            rows, wide = draw_list(rng)
            other = list(rows)
            for _ in range(5):
                if len(other) > 1:
                    one, onto = rng.sample(range(len(other)), 2)
                    other[onto] = tuple(2 * a - 5 * b for a, b in zip(other[one], other[onto]))
            rng.shuffle(other)
            self.assertEqual(reduced(tuple(other), wide), reduced(rows, wide))
            more = rows + (tuple(rng.randint(-3, 3) for _ in range(wide)),)
            self.assertIs(reduced(more, wide) == reduced(rows, wide), slow_rank(more, wide) == slow_rank(rows, wide))

    def test_great_integers(self):
        self.assertEqual(reduced(((GREAT, 2 * GREAT), (1, 3)), 2), units(2))
        self.assertEqual(reduced(((GREAT, 2 * GREAT), (-3, -6)), 2), ((1, 2),))
        self.assertEqual(reduced(((GREAT, GREAT + 1), (2 * GREAT, 2 * GREAT + 2)), 2), ((GREAT, GREAT + 1),))
        rng = drawn(113)
        rows = tuple(tuple(rng.randint(-GREAT, GREAT) for _ in range(4)) for _ in range(3))
        self.assertEqual(reduced(rows, 4), slow_reduced(rows, 4))
        self.assertEqual(null_rows(rows, 4), slow_null(rows, 4))


class RankAndKept(unittest.TestCase):
    def test_drawn_ones(self):
        rng = drawn(114)
        for _ in range(400):
            rows, wide = draw_list(rng)
            self.assertEqual(row_rank(rows, wide), slow_rank(rows, wide))
            due = [at for at in range(len(rows)) if slow_rank(rows[:at + 1], wide) > slow_rank(rows[:at], wide)]
            self.assertEqual(kept_rows(rows, wide), tuple(due))

    def test_examples(self):
        rows = ((0, 0, 0), (1, 2, 3), (2, 4, 6), (1, 0, 0), (0, 2, 3), (0, 0, 7))
        self.assertEqual(row_rank(rows, 3), 3)
        self.assertEqual(kept_rows(rows, 3), (1, 3, 5))
        self.assertEqual((row_rank((), 1), kept_rows((), 1)), (0, ()))
        self.assertEqual((row_rank(((0,),), 1), kept_rows(((0,), (3,), (-3,)), 1)), (0, (1,)))

    def test_the_greatest_number_of_rows_none_in_the_span_of_the_others(self):
        rng = drawn(115)
        for _ in range(100):
            rows, wide = draw_list(rng, 4)
            best = 0
            for many in range(len(rows) + 1):
                for lot in itertools.combinations(rows, many):
                    rank = slow_rank(lot, wide)
                    if all(slow_rank(lot[:at] + lot[at + 1:], wide) < rank for at in range(many)):
                        best = max(best, many)
            self.assertEqual(row_rank(rows, wide), best)


class NullRows(unittest.TestCase):
    def test_examples(self):
        self.assertEqual(null_rows((), 3), units(3))
        self.assertEqual(null_rows(((1, 1, 1),), 3), ((1, 0, -1), (0, 1, -1)))
        self.assertEqual(null_rows(((1, 2),), 2), ((2, -1),))
        self.assertEqual(null_rows(units(3), 3), ())
        self.assertEqual(null_rows(((0, 0),), 2), units(2))
        self.assertEqual(null_rows(((2, 3, 0),), 3), ((3, -2, 0), (0, 0, 1)))
        self.assertEqual(null_rows(((1, 0, -1, 0), (0, 1, 0, -1)), 4), ((1, 0, 1, 0), (0, 1, 0, 1)))

    def test_drawn_ones(self):
        rng = drawn(116)
        for _ in range(400):
            rows, wide = draw_list(rng)
            told = null_rows(rows, wide)
            self.assertEqual(told, slow_null(rows, wide))
            self.assertEqual(len(told), wide - slow_rank(rows, wide))
            self.assertTrue(all(times(row, null) == 0 for row in rows for null in told))
            self.assertEqual(null_rows(told, wide), reduced(rows, wide))
            self.assertEqual(reduced(told, wide), told)


class Bounds(unittest.TestCase):
    def test_widths(self):
        for wide in (1, 2, 239, 240):
            self.assertEqual(need_rows(units(wide), wide), units(wide))
            self.assertEqual(reduced(units(wide)[::-1], wide), units(wide))
            self.assertEqual(null_rows(units(wide), wide), ())
            self.assertEqual(null_rows((), wide), units(wide))
            self.assertEqual(kept_rows(units(wide) + (), wide), tuple(range(wide)))
            self.assertEqual(determinant(units(wide)), 1)
        for wide in STRANGE + (0, -1, 241, GREAT, -GREAT, (1,)):
            for function in FIVE:
                with self.assertRaises(BadWidth):
                    function(Spiteful(), wide)

    def test_how_many_rows(self):
        for many in (0, 1, 239, 240):
            rows = ((0, 1),) * many
            self.assertEqual(need_rows(rows, 2), rows)
            self.assertEqual(reduced(rows, 2), ((0, 1),) if many else ())
            self.assertEqual(row_rank(rows, 2), min(many, 1))
            self.assertEqual(kept_rows(rows, 2), (0,) if many else ())
            self.assertEqual(null_rows(rows, 2), ((1, 0),) if many else units(2))
        for rows in STRANGE + (0, ((0, 1),) * 241, ((0, 1),) * 500, [(0, 1)], (None,) * 241):
            for function in FIVE:
                with self.assertRaises(BadRows) as caught:
                    function(rows, 2)
                self.assertEqual(caught.exception.index, -1)

    def test_the_first_row_that_is_wrong(self):
        for row in STRANGE + (0, (), (1,), (1, 2, 3), [1, 2], (1, True), (False, 1), (1, None), ("1", 1), (1, Spiteful())):
            for rows, index in (((row, None), 0), (((1, 2), row, None), 1), (((1, 2),) * 239 + (row,), 239)):
                for function in FIVE:
                    with self.assertRaises(BadRows) as caught:
                        function(rows, 2)
                    self.assertEqual(caught.exception.index, index)

    def test_many_rows_and_columns_at_once(self):
        rng = drawn(117)
        rows = [[0] * 240 for _ in range(240)]
        for at, row in enumerate(rows):
            for place in rng.sample(range(240), 2):
                row[place] = rng.choice((1, -1, 2))
        rows = tuple(map(tuple, rows))
        told = reduced(rows, 240)
        self.assertEqual(row_rank(rows, 240), len(told))
        self.assertEqual(len(null_rows(rows, 240)), 240 - len(told))
        self.assertEqual(null_rows(null_rows(rows, 240), 240), told)
        self.assertEqual(reduced(tuple(rows[at] for at in kept_rows(rows, 240)), 240), told)

    def test_what_is_told_may_be_passed(self):
        rng = drawn(118)
        rows = tuple(tuple(rng.randint(-10 ** 600, 10 ** 600) for _ in range(4)) for _ in range(3))
        told = null_rows(rows, 4)
        self.assertGreater(max(map(abs, told[0])), 10 ** 1000)
        self.assertEqual(null_rows(told, 4), reduced(rows, 4))


class Determinant(unittest.TestCase):
    def test_examples(self):
        self.assertEqual(determinant(()), 1)
        self.assertEqual(determinant(((-7,),)), -7)
        self.assertEqual(determinant(((0,),)), 0)
        self.assertEqual(determinant(((1, 2), (3, 4))), -2)
        self.assertEqual(determinant(((0, 1), (1, 0))), -1)
        self.assertEqual(determinant(((0, 0, 2), (0, 3, 5), (4, 6, 7))), -24)
        self.assertEqual(determinant(((0, 1, 0), (0, 0, 1), (1, 0, 0))), 1)
        self.assertEqual(determinant(((1, 2), (2, 4))), 0)
        self.assertEqual(determinant(((GREAT, 1), (-1, GREAT))), GREAT * GREAT + 1)

    def test_drawn_ones(self):
        rng = drawn(119)
        for _ in range(400):
            many = rng.randint(0, 5)
            far = rng.choice((1, 2, 10, 10 ** 20))
            rows = tuple(tuple(rng.choice((0, rng.randint(-far, far))) for _ in range(many)) for _ in range(many))
            told = determinant(rows)
            self.assertEqual(told, slow_determinant(rows))
            if many > 1:
                one, other = sorted(rng.sample(range(many), 2))
                swapped = list(rows)
                swapped[one], swapped[other] = rows[other], rows[one]
                self.assertEqual(determinant(tuple(swapped)), -told)
                self.assertEqual(determinant(tuple(zip(*rows))), told)
                self.assertEqual(determinant((tuple(3 * number for number in rows[0]),) + rows[1:]), 3 * told)

    def test_large_ones(self):
        rng = drawn(120)
        order = list(range(240))
        rng.shuffle(order)
        turns = sum(order[at] > order[beyond] for at, beyond in itertools.combinations(range(240), 2))
        rows = units(240)
        self.assertEqual(determinant(tuple(rows[at] for at in order)), (-1) ** turns)
        steps = tuple(
            tuple(2 if place == at else int(place == at + 1) for place in range(240)) for at in range(240)
        )
        self.assertEqual(determinant(steps), 2 ** 240)
        self.assertEqual(determinant(((0,) * 240,) * 240), 0)

    def test_wrong_rows(self):
        for rows in STRANGE + (0, units(2) * 121, (None,) * 241, units(241)):
            with self.assertRaises(BadRows) as caught:
                determinant(rows)
            self.assertEqual(caught.exception.index, -1)
        for row in STRANGE + (0, (), (1,), (1, 2, 3), [1, 2], (1, True), (Spiteful(), 1)):
            for rows, index in (((row, None), 0), (((1, 2), row), 1)):
                with self.assertRaises(BadRows) as caught:
                    determinant(rows)
                self.assertEqual(caught.exception.index, index)
        for rows in (((1, 2),), ((1,), (2,)), ((1, 2), (1, 2), (3, 4))):
            with self.assertRaises(BadRows) as caught:
                determinant(rows)
            self.assertEqual(caught.exception.index, 0)
