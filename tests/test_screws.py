"""[146], [147]: VELOCITIES, WORK, TURNS, CENTRES, AXES, PITCHES."""

import math
import unittest
from fractions import Fraction

from bodybars.errors import BadDimension, BadPlace, BadRow, NoSpace, OnePlace
from bodybars.lines import line_of
from bodybars.screws import axis, centre, pitch, turn_about, velocity, work
from tests.helper import STRANGE, Spiteful, draw_place, drawn, slow_cross, slow_rank, times
from tests.test_lines import FAR, NO_DIMENSION, NO_PLACE, draw_pair, point

GREAT = 10 ** 999


def draw_motion(rng, dimension, far=4):
    return tuple(rng.randint(-far, far) for _ in range(dimension))


def bad_rows(many):
    good = tuple(range(1, many + 1))
    return STRANGE + (
        0, (), good[:-1], good + (1,), list(good), good[:-1] + (True,), (False,) + good[1:], good[:-1] + (None,),
        (Spiteful(),) * many, good[:-1] + ("1",),
    )


class Velocity(unittest.TestCase):
    def test_examples(self):
        self.assertEqual(velocity(3, (1, 2, 0), (9, -9)), (1, 2))
        self.assertEqual(velocity(3, (0, 0, 1), (1, 0)), (0, 1))
        self.assertEqual(velocity(3, (0, 0, 1), (0, 1)), (-1, 0))
        self.assertEqual(velocity(3, (5, 7, 2), (3, 4)), (-3, 13))
        self.assertEqual(velocity(6, (1, 2, 3, 0, 0, 0), (7, 8, 9)), (1, 2, 3))
        self.assertEqual(velocity(6, (0, 0, 0, 0, 0, 1), (1, 0, 0)), (0, 1, 0))
        self.assertEqual(velocity(6, (1, 0, 0, 1, 2, 3), (4, 5, 6)), (1 + 12 - 15, 12 - 6, 5 - 8))
        self.assertEqual(velocity(3, (0, 0, GREAT), (FAR, -FAR)), (FAR * GREAT, FAR * GREAT))

    def test_work_of_a_line_is_that_of_the_velocity_on_it(self):
        rng = drawn(141)
        for _ in range(200):
            for dimension in (3, 6):
                one, other = draw_pair(rng, dimension, rng.choice((3, 10 ** 6)))
                motion = draw_motion(rng, dimension)
                way = tuple(b - a for a, b in zip(one, other))
                told = work(line_of(dimension, one, other), motion)
                for place in (one, other, point((one, other), 2), point((one, other), -5)):
                    self.assertEqual(times(way, velocity(dimension, motion, place)), told)

    def test_errors_in_their_order(self):
        for dimension in NO_DIMENSION:
            with self.assertRaises(BadDimension):
                velocity(dimension, None, None)
        with self.assertRaises(NoSpace):
            velocity(1, (1,), (1,))
        for dimension, places in NO_PLACE.items():
            for row in bad_rows(dimension):
                with self.assertRaises(BadRow) as caught:
                    velocity(dimension, row, None)
                self.assertEqual(caught.exception.index, 0)
            for place in places:
                with self.assertRaises(BadPlace) as caught:
                    velocity(dimension, (1,) * dimension, place)
                self.assertEqual(caught.exception.index, -1)


class Work(unittest.TestCase):
    def test_examples(self):
        self.assertEqual(work((3,), (-5,)), -15)
        self.assertEqual(work((1, 2, 3), (4, 5, 6)), 32)
        self.assertEqual(work((1, 0, 0, 0, 2, 0), (GREAT, 1, 1, 1, 1, 1)), GREAT + 2)

    def test_errors(self):
        for row in bad_rows(1) + bad_rows(3) + bad_rows(6) + ((1,) * 2, (1,) * 4, (1,) * 5):
            # Behind or ahead of one more, a row of three may be short of a number and still be one of one.
            if type(row) is tuple and len(row) in (1, 3, 6) and all(type(number) is int for number in row):
                continue
            with self.assertRaises(BadRow) as caught:
                work(row, None)
            self.assertEqual(caught.exception.index, 0)
        for many in (1, 3, 6):
            for row in bad_rows(many):
                with self.assertRaises(BadRow) as caught:
                    work((1,) * many, row)
                self.assertEqual(caught.exception.index, 1)
            for other in {1, 3, 6} - {many}:
                with self.assertRaises(BadRow) as caught:
                    work((1,) * many, (1,) * other)
                self.assertEqual(caught.exception.index, 1)


class Turns(unittest.TestCase):
    def test_examples(self):
        self.assertEqual(turn_about(3, (0, 0)), (0, 0, 1))
        self.assertEqual(turn_about(3, (2, 5)), (5, -2, 1))
        self.assertEqual(turn_about(6, ((0, 0, 0), (0, 0, 3))), (0, 0, 0, 0, 0, 3))
        self.assertEqual(turn_about(6, ((1, 2, 3), (4, 6, 9))), (0, 3, -2, 3, 4, 6))

    def test_the_place_or_axis_stays_still(self):
        rng = drawn(142)
        for _ in range(200):
            far = rng.choice((2, FAR))
            place = draw_place(rng, 2, far)
            self.assertEqual(velocity(3, turn_about(3, place), place), (0, 0))
            pair = draw_pair(rng, 6, far)
            turn = turn_about(6, pair)
            for still in pair:
                self.assertEqual(velocity(6, turn, still), (0, 0, 0))

    def test_other_motions_move_it(self):
        rng = drawn(143)
        for _ in range(300):
            place = draw_place(rng, 2, 2)
            motion = draw_motion(rng, 3, 2)
            alike = slow_rank((turn_about(3, place), motion), 3) < 2
            self.assertIs(velocity(3, motion, place) == (0, 0), alike)
            pair = draw_pair(rng, 6, 1)
            turn = turn_about(6, pair)
            motion = tuple(rng.choice((0, 1, 2)) * number for number in turn) if rng.random() < 0.7 else draw_motion(rng, 6)
            alike = slow_rank((turn, motion), 6) < 2
            still = all(velocity(6, motion, end) == (0, 0, 0) for end in pair)
            self.assertIs(still, alike)

    def test_errors_in_their_order(self):
        for dimension in NO_DIMENSION:
            with self.assertRaises(BadDimension):
                turn_about(dimension, None)
        with self.assertRaises(NoSpace):
            turn_about(1, None)
        for place in NO_PLACE[3]:
            with self.assertRaises(BadPlace) as caught:
                turn_about(3, place)
            self.assertEqual(caught.exception.index, -1)
        good = (1, 2, 3)
        for pair in STRANGE + (0, (), (good,), (good, good, good), good, [good, (0, 0, 0)]):
            with self.assertRaises(BadPlace) as caught:
                turn_about(6, pair)
            self.assertEqual(caught.exception.index, -1)
        for place in NO_PLACE[6]:
            for pair, index in (((place, None), 0), ((good, place), 1)):
                with self.assertRaises(BadPlace) as caught:
                    turn_about(6, pair)
                self.assertEqual(caught.exception.index, index)
        with self.assertRaises(OnePlace):
            turn_about(6, (good, good))


class Centre(unittest.TestCase):
    def test_examples(self):
        self.assertEqual(centre((0, 0, 1)), (1, (0, 0)))
        self.assertEqual(centre((5, -2, 1)), (1, (2, 5)))
        self.assertEqual(centre((-5, 2, -1)), (1, (2, 5)))
        self.assertEqual(centre((1, 0, 2)), (2, (0, 1)))
        self.assertEqual(centre((1, 3, -6)), (6, (3, -1)))
        self.assertEqual(centre((4, 6, 2)), (1, (-3, 2)))
        self.assertIsNone(centre((1, 2, 0)))
        self.assertIsNone(centre((0, 0, 0)))
        self.assertEqual(centre((GREAT, 0, GREAT)), (1, (0, 1)))

    def test_of_turns(self):
        rng = drawn(144)
        for _ in range(200):
            place = draw_place(rng, 2, FAR)
            times_so = rng.choice((1, -1, 7, -12))
            self.assertEqual(centre(tuple(times_so * number for number in turn_about(3, place))), (1, place))

    def test_drawn_motions(self):
        rng = drawn(145)
        for _ in range(300):
            x, y, turning = motion = draw_motion(rng, 3, 6)
            told = centre(motion)
            if turning == 0:
                self.assertIsNone(told)
                continue
            count, numbers = told
            self.assertGreaterEqual(count, 1)
            self.assertEqual(math.gcd(count, *numbers), 1)
            self.assertEqual([Fraction(number, count) for number in numbers], [Fraction(-y, turning), Fraction(x, turning)])

    def test_three_centres_lie_on_one_line(self):
        rng = drawn(146)
        tried = 0
        while tried < 100:
            first, second, third = (draw_motion(rng, 3, 9) for _ in range(3))
            if len({first[2], second[2], third[2]}) == 3:
                tried += 1
                pairs = ((first, second), (second, third), (third, first))
                told = [centre(tuple(b - a for a, b in zip(*pair))) for pair in pairs]
                self.assertLess(slow_rank([(count, *numbers) for count, numbers in told], 3), 3)

    def test_errors(self):
        for row in bad_rows(3) + ((1,) * 6,):
            with self.assertRaises(BadRow) as caught:
                centre(row)
            self.assertEqual(caught.exception.index, 0)


class Axis(unittest.TestCase):
    def test_examples(self):
        self.assertEqual(axis((0, 0, 0, 0, 0, 3)), (1, (0, 0, 0), (0, 0, 1)))
        self.assertEqual(axis((0, 0, 5, 0, 0, -3)), (1, (0, 0, 0), (0, 0, -1)))
        self.assertEqual(axis((0, 1, 7, 0, 0, 2)), (2, (-1, 0, 0), (0, 0, 1)))
        self.assertEqual(pitch((0, 1, 7, 0, 0, 2)), (7, 2))
        self.assertEqual(pitch((0, 1, 6, 0, 0, 4)), (3, 2))
        self.assertEqual(pitch((0, 1, 6, 0, 0, -4)), (-3, 2))
        self.assertEqual(pitch((0, 0, 0, 0, 0, -4)), (0, 1))
        self.assertEqual(pitch((1, 1, 1, 1, 1, 1)), (1, 1))
        for motion in ((0,) * 6, (1, 2, 3, 0, 0, 0)):
            self.assertIsNone(axis(motion))
            self.assertIsNone(pitch(motion))

    def test_of_turns_with_a_shift_along_the_axis(self):
        rng = drawn(147)
        for _ in range(200):
            pair = draw_pair(rng, 6, rng.choice((3, FAR)))
            way = tuple(b - a for a, b in zip(*pair))
            turns, shift = rng.choice((1, -1, 3)), rng.randint(-4, 4)
            turn = turn_about(6, pair)
            motion = tuple(
                turns * number + shift * more for number, more in zip(turn, way + (0, 0, 0))
            )
            count, numbers, told = axis(motion)
            self.assertGreaterEqual(count, 1)
            self.assertEqual(math.gcd(count, *numbers), 1)
            self.assertEqual(told, tuple(turns * number // (abs(turns) * math.gcd(*way)) for number in way))
            where = tuple(Fraction(number, count) for number in numbers)
            self.assertEqual(slow_rank((way, tuple(a - b for a, b in zip(where, pair[0]))), 3), 1 if any(way) else 0)
            # The told point is the one nearest to the origin.
            self.assertEqual(times(where, way), 0)
            due = Fraction(shift, turns)
            self.assertEqual(pitch(motion), (due.numerator, due.denominator))

    def test_drawn_motions(self):
        rng = drawn(148)
        for _ in range(300):
            motion = draw_motion(rng, 6, rng.choice((1, 5)))
            shift, turning = motion[:3], motion[3:]
            if not any(turning):
                continue
            count, numbers, way = axis(motion)
            square = times(turning, turning)
            self.assertEqual(
                [Fraction(number, count) for number in numbers],
                [Fraction(number, square) for number in slow_cross(turning, shift)],
            )
            self.assertEqual(way, tuple(number // math.gcd(*turning) for number in turning))
            numerator, denominator = pitch(motion)
            self.assertEqual(Fraction(numerator, denominator), Fraction(times(shift, turning), square))
            self.assertEqual(math.gcd(numerator, denominator), 1)
            self.assertGreaterEqual(denominator, 1)
            where = tuple(Fraction(number, count) for number in numbers)
            there = tuple(a + b for a, b in zip(shift, slow_cross(turning, where)))
            self.assertEqual(there, tuple(Fraction(numerator, denominator) * number for number in turning))

    def test_all_other_points_are_faster(self):
        rng = drawn(149)
        for _ in range(300):
            motion = draw_motion(rng, 6, 2)
            shift, turning = motion[:3], motion[3:]
            if any(turning):
                place = draw_place(rng, 3, 2)
                numerator, denominator = pitch(motion)
                along_axis = tuple(Fraction(numerator, denominator) * number for number in turning)
                there = velocity(6, motion, place)
                count, numbers, way = axis(motion)
                where = tuple(Fraction(number, count) for number in numbers)
                on_axis = slow_rank((way, tuple(a - b for a, b in zip(place, where))), 3) == 1
                self.assertIs(there == along_axis, on_axis)
                self.assertIs(times(there, there) > times(along_axis, along_axis), not on_axis)

    def test_errors(self):
        for row in bad_rows(6) + ((1,) * 3,):
            for function in (axis, pitch):
                with self.assertRaises(BadRow) as caught:
                    function(row)
                self.assertEqual(caught.exception.index, 0)
