"""[20], [144], [145]: PLACES, LINES, PRODUCT, MEETING."""

import math
import unittest
from fractions import Fraction

from bodybars.errors import BadDimension, BadPlace, BadRow, NoSpace, OnePlace
from bodybars.lines import crossing_place, is_line_row, is_on, line_of, meeting, need_place, product
from bodybars.rows import determinant
from tests.helper import STRANGE, Spiteful, draw_place, drawn, slow_rank, slow_rows

FAR = 10 ** 9
WIDTH = {3: 2, 6: 3}
NO_PLACE = {
    3: STRANGE + (
        0, (), (0,), (0, 0, 0), [0, 0], (0, True), (False, 0), (None, 0), (0, FAR + 1), (-FAR - 1, 0), (0, "0"),
        ((0, 0),), (0, Spiteful()), (0, 10 ** 999),
    ),
    6: STRANGE + (
        0, (), (0, 0), (0, 0, 0, 0), [0, 0, 0], (0, 0, True), (None, 0, 0), (0, 0, FAR + 1), (-FAR - 1, 0, 0),
        (0, Spiteful(), 0),
    ),
}
NO_DIMENSION = STRANGE + (0, 2, 4, 5, 7, -1, (3,), 10 ** 999)


def draw_pair(rng, dimension, far=3):
    one = other = draw_place(rng, WIDTH[dimension], far)
    while other == one:
        other = draw_place(rng, WIDTH[dimension], far)
    return (one, other)


def point(pair, part):
    """The point that lies so far along a pair."""
    return tuple(a + part * (b - a) for a, b in zip(*pair))


def on_line(pair, place):
    """Whether a point lies on the line of a pair: its way from the first one has rank 1 with the line's way."""
    way = tuple(b - a for a, b in zip(*pair))
    return slow_rank((way, tuple(b - a for a, b in zip(pair[0], place))), len(way)) == 1


def slow_meeting(first, second):
    """The word, by points and ways alone."""
    ways = [tuple(b - a for a, b in zip(*pair)) for pair in (first, second)]
    across = tuple(b - a for a, b in zip(first[0], second[0]))
    wide = len(across)
    if slow_rank(ways, wide) == 1:
        return "same" if slow_rank([*ways, across], wide) == 1 else "parallel"
    return "crossing" if slow_rank([*ways, across], wide) == 2 else "skew"


class Places(unittest.TestCase):
    def test_places(self):
        for dimension, place in (
            (3, (0, 0)), (3, (FAR, -FAR)), (6, (0, 0, 0)), (6, (-FAR, FAR, 1)),
        ):
            self.assertEqual(need_place(dimension, place), place)
        for dimension, values in NO_PLACE.items():
            for value in values:
                with self.assertRaises(BadPlace) as caught:
                    need_place(dimension, value)
                self.assertEqual(caught.exception.index, -1)

    def test_the_dimension_comes_first(self):
        for call in (
            lambda dimension: need_place(dimension, None),
            lambda dimension: line_of(dimension, None, None),
            lambda dimension: is_line_row(dimension, Spiteful()),
            lambda dimension: is_on(dimension, None, None, None),
            lambda dimension: meeting(dimension, None, None),
            lambda dimension: crossing_place(dimension, None, None),
        ):
            for dimension in NO_DIMENSION:
                with self.assertRaises(BadDimension):
                    call(dimension)
            with self.assertRaises(NoSpace):
                call(1)


class Lines(unittest.TestCase):
    def test_examples(self):
        self.assertEqual(line_of(3, (0, 0), (1, 0)), (1, 0, 0))
        self.assertEqual(line_of(3, (1, 2), (4, 6)), (3, 4, -2))
        self.assertEqual(line_of(6, (0, 0, 0), (0, 0, 2)), (0, 0, 2, 0, 0, 0))
        self.assertEqual(line_of(6, (1, 0, 0), (1, 0, 5)), (0, 0, 5, 0, -5, 0))
        self.assertEqual(line_of(6, (1, 2, 3), (4, 6, 9)), (3, 4, 6, 0, 3, -2))
        self.assertEqual(line_of(3, (FAR, -FAR), (-FAR, FAR)), (-2 * FAR, 2 * FAR, 0))
        self.assertEqual(line_of(3, (FAR, FAR), (-FAR, FAR)), (-2 * FAR, 0, 2 * FAR * FAR))

    def test_there_and_back(self):
        rng = drawn(131)
        for _ in range(100):
            for dimension in (3, 6):
                one, other = draw_pair(rng, dimension, rng.choice((2, FAR)))
                line = line_of(dimension, one, other)
                self.assertEqual(line, slow_rows(dimension, "bar", (one, other))[0])
                self.assertEqual(line_of(dimension, other, one), tuple(-number for number in line))
                self.assertIs(is_line_row(dimension, line), True)

    def test_two_pairs_on_one_line(self):
        rng = drawn(132)
        seen = set()
        for _ in range(300):
            for dimension in (3, 6):
                first = draw_pair(rng, dimension, 1)
                second = draw_pair(rng, dimension, 1)
                if rng.random() < 0.5:
                    second = (point(first, rng.randint(2, 4)), point(first, rng.randint(-3, 1)))
                lines = (line_of(dimension, *first), line_of(dimension, *second))
                same = on_line(first, second[0]) and on_line(first, second[1])
                same = same or slow_meeting(first, second) == "same"
                self.assertIs(slow_rank(lines, dimension) == 1, same)
                seen.add(same)
        self.assertEqual(seen, {True, False})

    def test_wrong_places(self):
        for dimension, values in NO_PLACE.items():
            good = (5,) * WIDTH[dimension]
            for value in values:
                for call in (line_of, lambda *args: is_on(*args, None)):
                    with self.assertRaises(BadPlace) as caught:
                        call(dimension, value, None)
                    self.assertEqual(caught.exception.index, 0)
                    with self.assertRaises(BadPlace) as caught:
                        call(dimension, good, value)
                    self.assertEqual(caught.exception.index, 1)
                with self.assertRaises(BadPlace) as caught:
                    is_on(dimension, good, (4,) + good[1:], value)
                self.assertEqual(caught.exception.index, 2)
            with self.assertRaises(OnePlace):
                line_of(dimension, good, good)
            with self.assertRaises(OnePlace):
                is_on(dimension, good, good, None)


class LineRows(unittest.TestCase):
    def test_rows_that_are(self):
        for dimension, row in (
            (3, (1, 0, 0)), (3, (0, -1, 10 ** 999)), (3, (5, 7, -3)), (6, (1, 0, 0, 0, 0, 0)), (6, (1, 0, 0, 0, 5, 7)),
            (6, (1, 1, 0, 1, -1, 9)), (6, (0, 0, 10 ** 999, 1, 2, 0)),
        ):
            self.assertIs(is_line_row(dimension, row), True)

    def test_rows_that_are_not(self):
        for dimension, row in (
            (3, (0, 0, 0)), (3, (0, 0, 1)), (3, (1, 0)), (3, (1, 0, 0, 0)), (3, [1, 0, 0]), (3, (True, 0, 0)),
            (3, (1, 0, 0, 0, 0, 0)), (3, (1, 0, None)), (3, (Spiteful(), 0, 0)), (6, (0, 0, 0, 0, 0, 0)),
            (6, (0, 0, 0, 1, 2, 3)), (6, (1, 0, 0, 1, 0, 0)), (6, (1, 2, 3, 1, 1, -2)), (6, (1, 0, 0)),
            (6, (1, 0, 0, 0, 0, True)), (6, [1, 0, 0, 0, 0, 0]), (6, (1, 0, 0, 0, 0, 0, 0)), (6, 0), (3, 0),
        ):
            self.assertIs(is_line_row(dimension, row), False, row)
        for row in STRANGE:
            self.assertIs(is_line_row(3, row), False)
            self.assertIs(is_line_row(6, row), False)


class On(unittest.TestCase):
    def test_examples(self):
        self.assertIs(is_on(3, (0, 0), (2, 2), (-7, -7)), True)
        self.assertIs(is_on(3, (0, 0), (2, 2), (1, 1)), True)
        self.assertIs(is_on(3, (0, 0), (2, 2), (1, 2)), False)
        self.assertIs(is_on(6, (0, 0, 1), (2, 2, 1), (1, 1, 1)), True)
        self.assertIs(is_on(6, (0, 0, 1), (2, 2, 1), (1, 1, 0)), False)

    def test_drawn_ones(self):
        rng = drawn(133)
        seen = []
        for _ in range(300):
            for dimension in (3, 6):
                one, other = draw_pair(rng, dimension)
                place = draw_place(rng, WIDTH[dimension], 3)
                if rng.random() < 0.4:
                    place = point((one, other), rng.randint(-3, 3))
                due = place == one or on_line((one, other), place)
                self.assertIs(is_on(dimension, one, other, place), due)
                seen.append(due)
        self.assertGreater(min(seen.count(True), seen.count(False)), 100)


class Product(unittest.TestCase):
    def test_as_a_determinant(self):
        rng = drawn(134)
        for _ in range(200):
            first, second = draw_pair(rng, 6), draw_pair(rng, 6)
            told = product(line_of(6, *first), line_of(6, *second))
            self.assertEqual(told, determinant(tuple((1,) + place for place in first + second)))
            self.assertEqual(told == 0, slow_meeting(first, second) != "skew")

    def test_of_any_rows(self):
        self.assertEqual(product((1, 2, 3, 4, 5, 6), (7, 8, 9, 10, 11, 12)), 7 * 4 + 8 * 5 + 9 * 6 + 10 + 22 + 36)
        self.assertEqual(product((1, 2, 3, 4, 5, 6), (1, 2, 3, 4, 5, 6)), 2 * 32)
        self.assertEqual(product((10 ** 999, 0, 0, 0, 0, 0), (0, 0, 0, 10 ** 999, 0, 0)), 10 ** 1998)
        self.assertEqual(product((0,) * 6, (1,) * 6), 0)

    def test_wrong_rows(self):
        good = (1, 2, 3, 4, 5, 6)
        for row in STRANGE + (0, (), good[:5], good + (7,), list(good), (1, 2, 3, 4, 5, True), (1, 2, 3), (Spiteful(),) * 6):
            with self.assertRaises(BadRow) as caught:
                product(row, None)
            self.assertEqual(caught.exception.index, 0)
            with self.assertRaises(BadRow) as caught:
                product(good, row)
            self.assertEqual(caught.exception.index, 1)


class Meeting(unittest.TestCase):
    def test_examples(self):
        for dimension, first, second, word, told in (
            (3, ((0, 0), (1, 1)), ((5, 5), (2, 2)), "same", None),
            (3, ((0, 0), (1, 1)), ((1, 0), (0, -1)), "parallel", None),
            (3, ((0, 0), (2, 2)), ((1, 0), (0, 1)), "crossing", (2, (1, 1))),
            (3, ((0, 0), (0, 4)), ((-1, 3), (1, 3)), "crossing", (1, (0, 3))),
            (3, ((0, 0), (0, 4)), ((-1, -3), (1, -3)), "crossing", (1, (0, -3))),
            (3, ((0, 0), (1, 0)), ((0, 0), (0, 1)), "crossing", (1, (0, 0))),
            (6, ((0, 0, 0), (1, 1, 0)), ((3, 3, 0), (2, 2, 0)), "same", None),
            (6, ((0, 0, 0), (1, 1, 0)), ((0, 0, 1), (1, 1, 1)), "parallel", None),
            (6, ((0, 0, 0), (1, 1, 0)), ((0, 0, 1), (1, -1, 1)), "skew", None),
            (6, ((0, 0, 1), (2, 2, 1)), ((1, 0, 1), (0, 1, 1)), "crossing", (2, (1, 1, 2))),
            (6, ((0, 0, 0), (3, 0, 0)), ((1, 1, 1), (1, -1, -1)), "crossing", (1, (1, 0, 0))),
        ):
            self.assertEqual(meeting(dimension, first, second), word)
            self.assertEqual(meeting(dimension, second, first), word)
            self.assertEqual(crossing_place(dimension, first, second), told)
            self.assertEqual(crossing_place(dimension, second[::-1], first), told)

    def test_drawn_ones(self):
        rng = drawn(135)
        seen = []
        for _ in range(600):
            dimension = rng.choice((3, 6))
            far = rng.choice((1, 2, 9))
            first, second = draw_pair(rng, dimension, far), draw_pair(rng, dimension, far)
            if rng.random() < 0.5:
                second = (point(first, rng.randint(-2, 2)), second[1])
            if second[0] == second[1]:
                continue
            word = slow_meeting(first, second)
            self.assertEqual(meeting(dimension, first, second), word)
            seen.append((dimension, word))
            told = crossing_place(dimension, first, second)
            if word != "crossing":
                self.assertIsNone(told)
                continue
            count, numbers = told
            self.assertGreaterEqual(count, 1)
            self.assertEqual(math.gcd(count, *numbers), 1)
            where = tuple(Fraction(number, count) for number in numbers)
            for pair in (first, second):
                self.assertTrue(where == pair[0] or on_line(pair, where))
        self.assertEqual(len(set(seen)), 7)

    def test_far_places(self):
        first = ((-FAR, -FAR), (FAR, FAR))
        second = ((-FAR, FAR), (FAR, -FAR + 1))
        count, numbers = crossing_place(3, first, second)
        where = tuple(Fraction(number, count) for number in numbers)
        self.assertTrue(on_line(first, where) and on_line(second, where))
        self.assertEqual(math.gcd(count, *numbers), 1)

    def test_errors_in_their_order(self):
        for function in (meeting, crossing_place):
            for dimension, values in NO_PLACE.items():
                a, b, c, d = ((at,) * WIDTH[dimension] for at in range(4))
                for value in values:
                    for first, second, index in (
                        ((value, None), None, 0), ((a, value), None, 1), ((a, b), (value, None), 2), ((a, b), (c, value), 3),
                        ((a, a), (c, value), 3), ((a, a), (value, c), 2),
                    ):
                        with self.assertRaises(BadPlace) as caught:
                            function(dimension, first, second)
                        self.assertEqual(caught.exception.index, index)
                for value in STRANGE + (0, (), (a,), (a, b, c), [a, b]):
                    for first, second, index in ((value, None, 0), ((a, b), value, 2), ((a, a), value, 2)):
                        with self.assertRaises(BadPlace) as caught:
                            function(dimension, first, second)
                        self.assertEqual(caught.exception.index, index)
                for first, second in (((a, a), (c, d)), ((a, b), (c, c)), ((a, a), (a, a))):
                    with self.assertRaises(OnePlace):
                        function(dimension, first, second)
