"""[143]: SPAN PAPERS."""

import math
import unittest
from fractions import Fraction

from bodybars.errors import BadRow, BadRows, BadWidth
from bodybars.spans import is_in_span, span_fault, span_paper
from tests.helper import STRANGE, Spiteful, drawn, slow_null, slow_rank, times
from tests.test_rows import GREAT, draw_list, units

ROWS = ((2, 0, 2), (0, 3, 0), (2, 3, 2))
INSIDE = (1, 1, 1)
OUTSIDE = (1, 0, 0)


def sums(rows, wide, multiples):
    return tuple(sum(k * row[place] for row, k in zip(rows, multiples)) for place in range(wide))


def slow_out(rows, wide, row):
    """The pair of the plain paper "out", None of a row in the span."""
    for null in slow_null(rows, wide):
        if times(null, row) != 0:
            return ("out", null if times(null, row) > 0 else tuple(-number for number in null))
    return None


class Plain(unittest.TestCase):
    def test_examples(self):
        self.assertEqual(span_paper(ROWS, 3, INSIDE), ("in", 6, (3, 2, 0)))
        self.assertEqual(span_paper(ROWS, 3, (2, 0, 2)), ("in", 1, (1, 0, 0)))
        self.assertEqual(span_paper(ROWS, 3, (0, 0, 0)), ("in", 1, (0, 0, 0)))
        self.assertEqual(span_paper(ROWS, 3, (-1, 0, -1)), ("in", 2, (-1, 0, 0)))
        self.assertEqual(span_paper(ROWS, 3, OUTSIDE), ("out", (1, 0, -1)))
        self.assertEqual(span_paper(ROWS, 3, (0, 0, 5)), ("out", (-1, 0, 1)))
        self.assertEqual(span_paper((), 2, (0, -3)), ("out", (0, -1)))
        self.assertEqual(span_paper((), 2, (4, -3)), ("out", (1, 0)))
        self.assertEqual(span_paper((), 2, (0, 0)), ("in", 1, ()))
        self.assertEqual(span_paper(((0, 0), (2, 2), (3, 3)), 2, (1, 1)), ("in", 2, (0, 1, 0)))

    def test_drawn_ones(self):
        rng = drawn(121)
        words = []
        for _ in range(500):
            rows, wide = draw_list(rng)
            row = tuple(rng.randint(-3, 3) for _ in range(wide))
            if rows and rng.random() < 0.6:
                row = sums(rows, wide, [rng.randint(-4, 4) for _ in rows])
                common = math.gcd(*row) or 1
                row = tuple(number // common for number in row)
            rank = slow_rank(rows, wide)
            inside = slow_rank(rows + (row,), wide) == rank
            self.assertIs(is_in_span(rows, wide, row), inside)
            paper = span_paper(rows, wide, row)
            self.assertEqual(span_fault(rows, wide, row, paper), "")
            words.append(paper[0])
            if not inside:
                self.assertEqual(paper, slow_out(rows, wide, row))
                continue
            word, count, multiples = paper
            self.assertEqual((word, len(multiples)), ("in", len(rows)))
            self.assertEqual(sums(rows, wide, multiples), tuple(count * number for number in row))
            for at in range(len(rows)):
                if slow_rank(rows[:at + 1], wide) == slow_rank(rows[:at], wide):
                    self.assertEqual(multiples[at], 0)
            # The kept rows tell the fractions alone; N is the least that makes all of them whole.
            self.assertEqual(count, math.lcm(1, *[Fraction(number, count).denominator for number in multiples]))
        self.assertGreater(min(words.count("in"), words.count("out")), 100)

    def test_great_integers(self):
        self.assertEqual(span_paper(((GREAT, 0), (0, 1)), 2, (1, 1)), ("in", GREAT, (1, GREAT)))
        self.assertEqual(span_paper(((GREAT, 1),), 2, (GREAT, 2)), ("out", (-1, GREAT)))

    def test_bounds(self):
        rows = units(240)
        row = tuple(range(240))
        self.assertEqual(span_paper(rows, 240, row), ("in", 1, row))
        self.assertEqual(span_paper(rows[:-1], 240, row), ("out", rows[-1]))
        self.assertEqual(span_paper(((2,),) * 240, 1, (3,)), ("in", 2, (3,) + (0,) * 239))
        self.assertIs(is_in_span(rows[1:], 240, rows[0]), False)
        self.assertIs(is_in_span(rows[1:], 240, rows[7]), True)


class Faults(unittest.TestCase):
    def check(self, row, paper, word, rows=ROWS):
        self.assertEqual(span_fault(rows, 3, row, paper), word)

    def test_papers_that_are_right(self):
        self.check(INSIDE, ("in", 6, (3, 2, 0)), "")
        self.check(INSIDE, ("in", 12, (6, 4, 0)), "")
        self.check(INSIDE, ("in", 6, (0, -1, 3)), "")
        self.check(INSIDE, ("in", 6, (1, 0, 2)), "")
        self.check((0, 0, 0), ("in", 5, (-2, -2, 2)), "")
        self.check(OUTSIDE, ("out", (1, 0, -1)), "")
        self.check(OUTSIDE, ("out", (7, 0, -7)), "")
        self.check((0, 0, 0), ("in", 1, ()), "", ())
        self.check((0, 5, 0), ("out", (3, 1, -9)), "", ())

    def test_form(self):
        for paper in STRANGE + (
            0, (), ("in",), ("in", 6), ("in", 6, (3, 2, 0), 0), ["in", 6, (3, 2, 0)], ("out", 6, (3, 2, 0)), ("In", 6, (3, 2, 0)),
            ("in", 0, (3, 2, 0)), ("in", -6, (-3, -2, 0)), ("in", True, (0, 0, 0)), ("in", "6", (3, 2, 0)),
            ("in", 6, (3, 2)), ("in", 6, (3, 2, 0, 0)), ("in", 6, [3, 2, 0]), ("in", 6, (3, 2, False)), ("in", 6, (3, 2, None)),
            ("in", None, (3, 2, 0)), (Spiteful(), 6, (3, 2, 0)), ("in", Spiteful(), (3, 2, 0)), ("in", 6, Spiteful()),
            ("in", 6, (3, 2, Spiteful())), ("out",), ("out", (1, 0)), ("out", (1, 0, -1, 0)), ("out", [1, 0, -1]),
            ("in", (1, 0, -1)), ("out", (1, 0, True)), ("out", (1, 0, -1), 1), (b"out", (1, 0, -1)), ("out", Spiteful()),
            ("", (1, 0, -1)), (Spiteful(), (1, 0, -1)), (None, (1, 0, -1)),
        ):
            self.check(INSIDE, paper, "form")
            self.check(OUTSIDE, paper, "form")

    def test_true_for_an_integer(self):
        self.check((0, 0, 0), ("in", True, (0, 0, 0)), "form")
        self.check((2, 0, 2), ("in", 1, (True, 0, 0)), "form")
        self.check(OUTSIDE, ("out", (True, 0, -1)), "form")

    def test_multiples(self):
        self.check(INSIDE, ("in", 6, (3, 2, 1)), "multiples")
        self.check(INSIDE, ("in", 1, (3, 2, 0)), "multiples")
        self.check(INSIDE, ("in", 6, (-3, -2, 0)), "multiples")
        self.check(OUTSIDE, ("in", 1, (0, 0, 0)), "multiples")
        self.check(OUTSIDE, ("in", 1, ()), "multiples", ())

    def test_rows_then_row(self):
        self.check(OUTSIDE, ("out", (1, 0, 0)), "rows")
        self.check(OUTSIDE, ("out", (-1, 0, 0)), "rows")
        self.check(OUTSIDE, ("out", (1, 1, -1)), "rows")
        self.check(OUTSIDE, ("out", (-1, 0, 1)), "row")
        self.check(OUTSIDE, ("out", (0, 0, 0)), "row")
        self.check(INSIDE, ("out", (1, 0, -1)), "row")
        self.check(INSIDE, ("out", (1, 1, 1)), "rows")

    def test_just_one_word(self):
        rng = drawn(122)
        for _ in range(200):
            rows, wide = draw_list(rng, 3)
            row = tuple(rng.randint(-2, 2) for _ in range(wide))
            inside = is_in_span(rows, wide, row)
            for _ in range(10):
                if inside:
                    paper = ("out", tuple(rng.randint(-2, 2) for _ in range(wide)))
                else:
                    paper = ("in", rng.randint(1, 3), tuple(rng.randint(-2, 2) for _ in rows))
                self.assertNotEqual(span_fault(rows, wide, row, paper), "")


class Errors(unittest.TestCase):
    def test_errors_in_their_order(self):
        calls = (is_in_span, span_paper, lambda rows, wide, row: span_fault(rows, wide, row, None))
        for call in calls:
            for wide in STRANGE + (0, 241, -1):
                with self.assertRaises(BadWidth):
                    call(None, wide, None)
            for rows, index in ((None, -1), ([(1, 2)], -1), (((1, 2),) * 241, -1), (((1, 2), (1,)), 1)):
                with self.assertRaises(BadRows) as caught:
                    call(rows, 2, None)
                self.assertEqual(caught.exception.index, index)
            for row in STRANGE + (0, (), (1,), (1, 2, 3), [1, 2], (1, True), (1, Spiteful())):
                with self.assertRaises(BadRow) as caught:
                    call(((1, 2),), 2, row)
                self.assertEqual(caught.exception.index, -1)
