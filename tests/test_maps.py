"""[148], [149]: MAPS, and what they move."""

import unittest

from bodybars.errors import (
    BadDimension, BadFrame, BadMap, BadPlace, BadPlacement, BadRow, NoSpace, TooGreat,
)
from bodybars.jointrows import matrix_of
from bodybars.lines import line_of, product
from bodybars.maps import composed, moved_place, moved_placement, moved_row, need_map
from bodybars.placed import is_general, left_at, rank_at
from bodybars.placements import placement_fault
from bodybars.rows import determinant, reduced
from tests.helper import FRAMES, STRANGE, Spiteful, draw_frames, draw_place, drawn, placed_frames, times
from tests.test_lines import FAR, NO_DIMENSION, NO_PLACE, WIDTH, draw_pair
from tests.test_screws import bad_rows, draw_motion

ONE = {3: (((1, 0), (0, 1)), (0, 0)), 6: (((1, 0, 0), (0, 1, 0), (0, 0, 1)), (0, 0, 0))}
SHEAR = (((1, 2), (0, 1)), (3, -4))
QUARTER = (((0, -1), (1, 0)), (0, 0))
NO_MAP = {
    3: STRANGE + (
        0, (), (((1, 0), (0, 1)),), (((1, 0), (0, 1)), (0, 0), 0), [((1, 0), (0, 1)), (0, 0)], (((1, 0), (0, 1)), [0, 0]),
        ([(1, 0), (0, 1)], (0, 0)), (((1, 0), [0, 1]), (0, 0)), (((1, 0),), (0, 0)), (((1, 0), (0, 1), (0, 0)), (0, 0)),
        (((1, 0), (0, 1, 0)), (0, 0)), (((1, 0), (0, 1)), (0,)), (((1, 0), (0, 1)), (0, 0, 0)), (((1, 0), (0, True)), (0, 0)),
        (((1, 0), (0, 1)), (0, False)), (((1001, 0), (0, 1)), (0, 0)), (((1, 0), (0, -1001)), (0, 0)),
        (((1, 0), (0, 1)), (0, 10 ** 6 + 1)), (((1, 0), (0, 1)), (-10 ** 6 - 1, 0)), (((1, 2), (2, 4)), (0, 0)),
        (((0, 0), (0, 0)), (0, 0)), (((1, 0), (0, None)), (0, 0)), (((Spiteful(), 0), (0, 1)), (0, 0)), (None, (0, 0)),
        (((1, 0), (0, 1)), None), ONE[6], (((10 ** 999, 0), (0, 1)), (0, 0)), (((1, 0), (0, 1)), (0, Spiteful())),
    ),
    6: STRANGE + (
        0, (), ONE[3], (ONE[6][0], (0, 0)), (ONE[6][0][:2], (0, 0, 0)), (((1, 2, 3), (4, 5, 6), (7, 8, 9)), (0, 0, 0)),
        (((1, 0, 0), (0, 1, 0), (0, 0, 1001)), (0, 0, 0)), (ONE[6][0], (0, 0, 10 ** 6 + 1)), (ONE[6][0], (0, 0, True)),
        (((1, 0, 0), (0, 1, 0), (0, 0)), (0, 0, 0)), (((1, 0, 0), (0, 1, 0), (0, 0, True)), (0, 0, 0)),
    ),
}


def draw_map(rng, dimension, far=3):
    wide = WIDTH[dimension]
    while True:
        rows = tuple(tuple(rng.randint(-far, far) for _ in range(wide)) for _ in range(wide))
        if determinant(rows) != 0:
            return (rows, tuple(rng.randint(-9, 9) for _ in range(wide)))


def moved(change, place):
    return tuple(times(row, place) + more for row, more in zip(*change))


class Need(unittest.TestCase):
    def test_maps(self):
        rng = drawn(151)
        edge = (((1000, -1000), (1000, 1000)), (10 ** 6, -10 ** 6))
        for dimension, value in [(3, ONE[3]), (6, ONE[6]), (3, SHEAR), (3, QUARTER), (3, edge)] + [
            (dimension, draw_map(rng, dimension, far)) for dimension in (3, 6) for far in (1, 5, 1000)
        ]:
            self.assertEqual(need_map(dimension, value), value)

    def test_a_determinant_of_0(self):
        for rows in (((1000, 1000), (1000, 1000)), ((0, 0), (5, 7)), ((2, -3), (-4, 6))):
            with self.assertRaises(BadMap):
                need_map(3, (rows, (0, 0)))
        with self.assertRaises(BadMap):
            need_map(6, (((1, 0, 0), (0, 1, 0), (1, 1, 0)), (0, 0, 0)))

    def test_no_maps(self):
        for dimension, values in NO_MAP.items():
            good = ONE[dimension]
            for value in values:
                for call in (
                    lambda: need_map(dimension, value), lambda: moved_place(dimension, value, None),
                    lambda: moved_row(dimension, value, None), lambda: composed(dimension, value, good),
                    lambda: composed(dimension, good, value),
                ):
                    with self.assertRaises(BadMap):
                        call()

    def test_the_dimension_comes_first(self):
        for call in (
            lambda dimension: need_map(dimension, None), lambda dimension: moved_place(dimension, None, None),
            lambda dimension: moved_row(dimension, None, None), lambda dimension: composed(dimension, None, None),
        ):
            for dimension in NO_DIMENSION:
                with self.assertRaises(BadDimension):
                    call(dimension)
            with self.assertRaises(NoSpace):
                call(1)


class Places(unittest.TestCase):
    def test_examples(self):
        self.assertEqual(moved_place(3, SHEAR, (5, 7)), (22, 3))
        self.assertEqual(moved_place(3, QUARTER, (5, 7)), (-7, 5))
        self.assertEqual(moved_place(6, (((0, 1, 0), (0, 0, 1), (2, 0, 0)), (1, 2, 3)), (4, 5, 6)), (6, 8, 11))

    def test_bounds(self):
        stretch = (((1000, 0), (0, 1)), (10 ** 6, 0))
        self.assertEqual(moved_place(3, stretch, (999000, 0)), (FAR, 0))
        self.assertEqual(moved_place(3, stretch, (-1001000, FAR)), (-FAR, FAR))
        for place in ((999001, 0), (-1001001, 0), (FAR, 0)):
            with self.assertRaises(TooGreat) as caught:
                moved_place(3, stretch, place)
            self.assertEqual(caught.exception.most, FAR)
        with self.assertRaises(TooGreat):
            moved_place(6, (ONE[6][0], (0, 0, 1)), (0, 0, FAR))

    def test_wrong_places(self):
        for dimension, values in NO_PLACE.items():
            for value in values:
                with self.assertRaises(BadPlace) as caught:
                    moved_place(dimension, ONE[dimension], value)
                self.assertEqual(caught.exception.index, -1)


class Rows(unittest.TestCase):
    def test_examples(self):
        self.assertEqual(moved_row(3, SHEAR, (1, 1, 5)), (3, 1, 5 + 3 * 1 + 4 * 3))
        self.assertEqual(moved_row(3, (((2, 0), (0, 3)), (0, 0)), (1, 1, 5)), (2, 3, 30))
        self.assertEqual(moved_row(6, (((2, 0, 0), (0, 3, 0), (0, 0, 5)), (0, 0, 0)), (1,) * 6), (2, 3, 5, 15, 10, 6))
        self.assertEqual(moved_row(6, (ONE[6][0], (1, 2, 3)), (0, 0, 1, 0, 0, 0)), (0, 0, 1, 2, -1, 0))

    def test_of_lines(self):
        rng = drawn(152)
        for _ in range(200):
            for dimension in (3, 6):
                change = draw_map(rng, dimension)
                one, other = draw_pair(rng, dimension, 9)
                ends = (moved(change, one), moved(change, other))
                self.assertEqual(moved_place(dimension, change, one), ends[0])
                self.assertEqual(moved_row(dimension, change, line_of(dimension, one, other)), line_of(dimension, *ends))

    def test_products(self):
        rng = drawn(153)
        for _ in range(200):
            change = draw_map(rng, 6)
            one, other = draw_motion(rng, 6), draw_motion(rng, 6)
            self.assertEqual(
                product(moved_row(6, change, one), moved_row(6, change, other)), determinant(change[0]) * product(one, other)
            )

    def test_one_after_the_other(self):
        rng = drawn(154)
        for _ in range(200):
            for dimension in (3, 6):
                first, last = draw_map(rng, dimension), draw_map(rng, dimension)
                both = composed(dimension, last, first)
                need_map(dimension, both)
                place, row = draw_place(rng, WIDTH[dimension]), draw_motion(rng, dimension)
                self.assertEqual(moved(both, place), moved(last, moved(first, place)))
                self.assertEqual(
                    moved_row(dimension, both, row), moved_row(dimension, last, moved_row(dimension, first, row))
                )

    def test_wrong_rows(self):
        for dimension in (3, 6):
            for row in bad_rows(dimension):
                with self.assertRaises(BadRow) as caught:
                    moved_row(dimension, ONE[dimension], row)
                self.assertEqual(caught.exception.index, 0)


class Composed(unittest.TestCase):
    def test_bounds(self):
        wide, high = (((1000, 0), (0, 1)), (0, 0)), (((1, 0), (0, 1000)), (0, 0))
        self.assertEqual(composed(3, wide, high), (((1000, 0), (0, 1000)), (0, 0)))
        shift = (((1, 0), (0, 1)), (1000, -1000))
        self.assertEqual(composed(3, wide, shift), (((1000, 0), (0, 1)), (10 ** 6, -1000)))
        self.assertEqual(composed(3, shift, wide), (((1000, 0), (0, 1)), (1000, -1000)))
        for last, first, most in (
            (wide, (((2, 0), (0, 1)), (0, 0)), 1000), (wide, (((-2, 0), (0, 1)), (0, 0)), 1000),
            (wide, (((1, 0), (0, 1)), (1001, 0)), 10 ** 6), (wide, (((1, 0), (0, 1)), (-1001, 0)), 10 ** 6),
            (wide, (((2, 0), (0, 1)), (1001, 0)), 1000),
            ((((1, 0), (0, 1)), (10 ** 6, 0)), (((1, 0), (0, 1)), (1, 0)), 10 ** 6),
        ):
            with self.assertRaises(TooGreat) as caught:
                composed(3, last, first)
            self.assertEqual(caught.exception.most, most)


class Placements(unittest.TestCase):
    def test_an_example(self):
        frame = (3, 3, (("bar", 0, 1), ("pin", 1, 2), ("weld", 0, 2)))
        placement = (((0, 0), (1, 1)), (5, 7), ())
        self.assertEqual(moved_placement(frame, placement, SHEAR), (((3, -4), (6, -3)), (22, 3), ()))
        frame = (6, 3, (("bar", 0, 1), ("hinge", 1, 2), ("weld", 0, 2)))
        placement = (((0, 0, 0), (1, 1, 1)), ((5, 7, 9), (0, 0, 1)), ())
        change = (ONE[6][0], (1, 2, 3))
        self.assertEqual(
            moved_placement(frame, placement, change), (((1, 2, 3), (2, 3, 4)), ((6, 9, 12), (1, 2, 4)), ())
        )

    def test_what_does_not_change(self):
        rng = drawn(155)
        frames = [frame for frame in draw_frames(156, 40, 4, 8) if frame[0] > 1]
        for frame, placement in placed_frames(157, frames):
            for change in (draw_map(rng, frame[0], 1), draw_map(rng, frame[0])):
                told = moved_placement(frame, placement, change)
                self.assertIsNone(placement_fault(frame, told))
                self.assertEqual(rank_at(frame, told), rank_at(frame, placement))
                self.assertEqual(left_at(frame, told), left_at(frame, placement))
                self.assertIs(is_general(frame, told), is_general(frame, placement))
                dimension, many, _ = frame
                rows = tuple(
                    sum((moved_row(dimension, change, row[at:at + dimension]) for at in range(0, len(row), dimension)), ())
                    for row in matrix_of(frame, placement)
                )
                wide = dimension * many
                self.assertEqual(reduced(rows, wide), reduced(matrix_of(frame, told), wide))

    def test_one_after_the_other(self):
        rng = drawn(158)
        frames = [frame for frame in FRAMES if frame[0] > 1]
        for frame, placement in placed_frames(159, frames):
            first, last = draw_map(rng, frame[0]), draw_map(rng, frame[0])
            both = moved_placement(frame, moved_placement(frame, placement, first), last)
            self.assertEqual(moved_placement(frame, placement, composed(frame[0], last, first)), both)

    def test_errors_in_their_order(self):
        frame = (3, 2, (("pin", 0, 1),))
        with self.assertRaises(BadFrame):
            moved_placement((3, 2, [1]), None, None)
        with self.assertRaises(BadPlacement) as caught:
            moved_placement(frame, (None,), None)
        self.assertEqual(caught.exception.number, 0)
        with self.assertRaises(NoSpace):
            moved_placement((1, 2, (("bar", 0, 1),)), ((),), None)
        with self.assertRaises(BadPlacement):
            moved_placement((1, 2, (("bar", 0, 1),)), None, None)
        for value in NO_MAP[3]:
            with self.assertRaises(BadMap):
                moved_placement(frame, ((FAR, FAR),), value)
        with self.assertRaises(TooGreat) as caught:
            moved_placement(frame, ((FAR, 0),), (ONE[3][0], (1, 0)))
        self.assertEqual(caught.exception.most, FAR)
        self.assertEqual(moved_placement(frame, ((FAR, 0),), (ONE[3][0], (0, 1))), ((FAR, 1),))
        self.assertEqual(moved_placement((3, 1, ()), (), ONE[3]), ())
