"""[156]: CENTRES."""

import itertools
import math
import unittest
from fractions import Fraction

from bodybars.centres import centres
from bodybars.errors import BadFrame, BadPlacement, NotOne, NotPlane
from bodybars.motions import held_motions
from bodybars.placed import left_at
from tests.helper import draw_placement, drawn, slow_rank
from tests.test_lines import on_line

RING = (3, 4, (("pin", 0, 1), ("pin", 1, 2), ("pin", 2, 3), ("pin", 0, 3)))


class Centres(unittest.TestCase):
    def test_of_two_bodies(self):
        pin, bars = (3, 2, (("pin", 0, 1),)), (3, 2, (("bar", 0, 1), ("bar", 0, 1)))
        self.assertEqual(centres(pin, ((2, -5),)), ((0, 1, ("turn", 1, (2, -5))),))
        # The lines of both bars cross at (1/2, 1/2).
        crossing = (((0, 0), (1, 1)), ((1, 0), (0, 1)))
        self.assertEqual(centres(bars, crossing), ((0, 1, ("turn", 2, (1, 1))),))
        for placement, way in (
            ((((0, 0), (1, 0)), ((0, 1), (1, 1))), (0, 1)), ((((0, 0), (0, 3)), ((5, 7), (5, 1))), (1, 0)),
            ((((0, 0), (2, 2)), ((1, 0), (0, -1))), (1, -1)), ((((0, 0), (4, -2)), ((1, 0), (3, -1))), (1, 2)),
        ):
            self.assertEqual(centres(bars, placement), ((0, 1, ("shift", way)),))

    def test_of_a_ring_of_four_pins(self):
        self.assertEqual(centres(RING, ((0, 0), (1, 0), (1, 1), (0, 1))), (
            (0, 1, ("turn", 1, (0, 0))), (0, 2, ("shift", (0, 1))), (0, 3, ("turn", 1, (0, 1))),
            (1, 2, ("turn", 1, (1, 0))), (1, 3, ("shift", (1, 0))), (2, 3, ("turn", 1, (1, 1))),
        ))
        # The opposite bodies turn about the point where the lines of the pins of their neighbours cross.
        told = dict(((one, other), point) for one, other, point in centres(RING, ((0, 0), (2, 3), (5, 4), (7, 0))))
        self.assertEqual(told[0, 1], ("turn", 1, (0, 0)))
        for pair, first, second in (((0, 2), ((0, 0), (2, 3)), ((5, 4), (7, 0))), ((1, 3), ((2, 3), (5, 4)), ((0, 0), (7, 0)))):
            word, count, numbers = told[pair]
            where = tuple(Fraction(number, count) for number in numbers)
            self.assertEqual(word, "turn")
            self.assertTrue(on_line(first, where) and on_line(second, where))
            self.assertEqual(math.gcd(count, *numbers), 1)

    def test_still(self):
        moment = ((0, 0), (1, 0), (3, 0), (0, 2))
        told = dict(((one, other), point) for one, other, point in centres(RING, moment))
        self.assertEqual(told[0, 3], ("still",))
        self.assertEqual(told[1, 2], ("turn", 1, (1, 0)))
        self.assertEqual(told[2, 3], ("turn", 1, (3, 0)))
        welded = (3, 3, (("weld", 0, 1), ("pin", 1, 2)))
        self.assertEqual(centres(welded, ((), (4, 5))), (
            (0, 1, ("still",)), (0, 2, ("turn", 1, (4, 5))), (1, 2, ("turn", 1, (4, 5))),
        ))

    def test_drawn_linkages(self):
        rng = drawn(251)
        frames = [
            RING, (3, 3, (("pin", 0, 1), ("pin", 1, 2), ("bar", 0, 2))), (3, 2, (("bar", 0, 1), ("bar", 0, 1))),
            (3, 3, (("pin", 0, 1), ("bar", 1, 2), ("bar", 1, 2), ("bar", 0, 2))),
            (3, 4, (("weld", 0, 2), ("pin", 0, 1), ("pin", 1, 3), ("bar", 0, 3))),
        ]
        words = []
        for _ in range(60):
            for frame in frames:
                placement = draw_placement(rng, frame, rng.choice((1, 2, 30)))
                left = left_at(frame, placement)
                if left != 1:
                    with self.assertRaises(NotOne) as caught:
                        centres(frame, placement)
                    self.assertEqual(caught.exception.count, left)
                    continue
                told = centres(frame, placement)
                self.assertEqual([row[:2] for row in told], list(itertools.combinations(range(frame[1]), 2)))
                self.check_each(frame, placement, told, words)
                self.check_threes(frame, placement, {row[:2]: row[2] for row in told})
        self.assertEqual(set(words), {"still", "shift", "turn"})

    def check_each(self, frame, placement, told, words):
        held = held_motions(frame, placement, 0)[0]
        for one, other, point in told:
            x, y, turning = (held[3 * other + at] - held[3 * one + at] for at in range(3))
            words.append(point[0])
            if (x, y, turning) == (0, 0, 0):
                self.assertEqual(point, ("still",))
            elif turning == 0:
                self.assertEqual(point[0], "shift")
                self.assertEqual(slow_rank((point[1], (x, y)), 2), 1)
                self.assertEqual(math.gcd(*point[1]), 1)
                self.assertGreater(point[1], (0, 0))
            else:
                word, count, numbers = point
                self.assertEqual([Fraction(number, count) for number in numbers], [Fraction(-y, turning), Fraction(x, turning)])
                self.assertEqual((word, math.gcd(count, *numbers)), ("turn", 1))
                self.assertGreaterEqual(count, 1)
            self.check_joints(frame, placement, one, other, point)

    def check_joints(self, frame, placement, one, other, point):
        for (kind, *ends), thing in zip(frame[2], placement):
            if ends != [one, other] or point == ("still",):
                continue
            if kind == "pin":
                self.assertEqual(point, ("turn", 1, thing))
            elif kind == "bar" and point[0] == "shift":
                self.assertEqual(sum(a * (q - p) for a, p, q in zip(point[1], *thing)), 0)
            elif kind == "bar":
                where = tuple(Fraction(number, point[1]) for number in point[2])
                self.assertTrue(where == thing[0] or on_line(thing, where))

    def check_threes(self, frame, placement, told):
        held = held_motions(frame, placement, 0)[0]
        for lot in itertools.combinations(range(frame[1]), 3):
            if len({held[3 * body + 2] for body in lot}) == 3:
                points = [told[pair] for pair in itertools.combinations(lot, 2)]
                self.assertLess(slow_rank([(count, *numbers) for _, count, numbers in points], 3), 3)


class Errors(unittest.TestCase):
    def test_errors_in_their_order(self):
        with self.assertRaises(BadFrame):
            centres((3, 2, [1]), None)
        for frame in ((6, 2, (("hinge", 0, 1),)), (1, 2, (("bar", 0, 1),))):
            with self.assertRaises(BadPlacement):
                centres(frame, None)
        for frame, placement in (
            ((6, 2, (("hinge", 0, 1),)), (((0, 0, 0), (0, 0, 1)),)), ((6, 2, ()), ()), ((1, 2, ()), ()), ((1, 1, ()), ()),
        ):
            with self.assertRaises(NotPlane) as caught:
                centres(frame, placement)
            self.assertEqual(caught.exception.dimension, frame[0])
        for frame, placement, left in (
            ((3, 1, ()), (), 0), ((3, 2, ()), (), 3), ((3, 2, (("weld", 0, 1),)), ((),), 0), (RING, ((0, 0),) * 4, 3),
        ):
            with self.assertRaises(NotOne) as caught:
                centres(frame, placement)
            self.assertEqual(caught.exception.count, left)
