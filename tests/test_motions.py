"""[22], [150]: MOTIONS AT a PLACEMENT, HELD MOTIONS."""

import unittest

from bodybars.errors import BadBody, BadFrame, BadPlacement
from bodybars.motions import held_motions, is_motion, motions_at
from bodybars.placed import left_at
from bodybars.rows import reduced
from tests.helper import (
    FRAMES, STRANGE, Spiteful, draw_frames, drawn, placed_frames, slow_matrix, slow_null, slow_rank, slow_reduced, times,
)

PIN = (3, 2, (("pin", 0, 1),))


def whole_motions(dimension, many):
    return tuple(tuple(int(at % dimension == place) for at in range(dimension * many)) for place in range(dimension))


def slow_held(frame, placement, body):
    """HELD MOTIONS: each motion less that of the whole that it is at the body, reduced."""
    dimension, many, _ = frame
    rows = []
    for row in slow_null(slow_matrix(frame, placement), dimension * many):
        there = row[dimension * body:dimension * (body + 1)]
        rows.append(tuple(number - there[at % dimension] for at, number in enumerate(row)))
    return slow_reduced(rows, dimension * many)


class Motions(unittest.TestCase):
    def test_examples(self):
        self.assertEqual(motions_at(PIN, ((0, 0),)), ((1, 0, 0, 1, 0, 0), (0, 1, 0, 0, 1, 0), (0, 0, 1, 0, 0, 0), (0, 0, 0, 0, 0, 1)))
        self.assertEqual(held_motions(PIN, ((0, 0),), 0), ((0, 0, 0, 0, 0, 1),))
        self.assertEqual(held_motions(PIN, ((0, 0),), 1), ((0, 0, 1, 0, 0, 0),))
        self.assertEqual(held_motions(PIN, ((2, 5),), 0), ((0, 0, 0, 5, -2, 1),))
        self.assertEqual(motions_at((1, 3, (("bar", 0, 1),)), ((),)), ((1, 1, 0), (0, 0, 1)))
        self.assertEqual(held_motions((1, 3, (("bar", 0, 1),)), ((),), 2), ((1, 1, 0),))
        self.assertEqual(motions_at((1, 1, ()), ()), ((1,),))
        self.assertEqual(held_motions((6, 1, ()), (), 0), ())

    def test_drawn_ones(self):
        for frame, placement in placed_frames(211, [*FRAMES[:-2], *draw_frames(212, 60, 5, 8)]):
            wide = frame[0] * frame[1]
            left = left_at(frame, placement)
            told = motions_at(frame, placement)
            self.assertEqual(told, slow_null(slow_matrix(frame, placement), wide))
            self.assertEqual(len(told), frame[0] + left)
            self.assertTrue(all(is_motion(frame, placement, row) for row in told))
            for body in range(frame[1]):
                held = held_motions(frame, placement, body)
                self.assertEqual(held, slow_held(frame, placement, body))
                self.assertEqual(len(held), left)
                for row in held:
                    self.assertFalse(any(row[frame[0] * body:frame[0] * (body + 1)]))
                self.assertEqual(reduced(held + whole_motions(frame[0], frame[1]), wide), told)

    def test_many_joints(self):
        welds = (6, 8, (("weld", 0, 7),) * 40)
        held = held_motions(welds, ((),) * 40, 7)
        self.assertEqual(len(held), 36)
        self.assertFalse(any(any(row[:6]) or any(row[42:]) for row in held))
        self.assertEqual(len(motions_at(welds, ((),) * 40)), 42)

    def test_what_is_a_motion(self):
        rng = drawn(213)
        seen = []
        for frame, placement in placed_frames(214, draw_frames(215, 60, 3, 4), 2):
            wide = frame[0] * frame[1]
            matrix = slow_matrix(frame, placement)
            null = slow_null(matrix, wide)
            for _ in range(4):
                value = tuple(sum(rng.randint(-2, 2) * row[0] for row in null) for _ in range(wide))
                if rng.random() < 0.5:
                    parts = [rng.randint(-3, 3) for _ in null]
                    value = tuple(sum(k * row[at] for k, row in zip(parts, null)) for at in range(wide))
                due = all(times(row, value) == 0 for row in matrix)
                self.assertIs(is_motion(frame, placement, value), due)
                self.assertIs(due, slow_rank([*null, value], wide) == len(null))
                seen.append(due)
        self.assertEqual(set(seen), {True, False})

    def test_values_of_any_kind(self):
        zero = (0, 0, 0, 0, 0, 0)
        self.assertIs(is_motion(PIN, ((0, 0),), zero), True)
        self.assertIs(is_motion(PIN, ((0, 0),), (0, 0, 10 ** 999, 0, 0, -10 ** 999)), True)
        self.assertIs(is_motion(PIN, ((1, 0),), (0, 0, 1, 0, 0, 0)), False)
        for value in STRANGE + (
            0, (), zero[:5], zero + (0,), list(zero), zero[:5] + (False,), zero[:5] + (None,), (Spiteful(),) * 6, (zero,),
        ):
            self.assertIs(is_motion(PIN, ((0, 0),), value), False)

    def test_errors_in_their_order(self):
        for function in (
            motions_at, lambda frame, placement: held_motions(frame, placement, None),
            lambda frame, placement: is_motion(frame, placement, Spiteful()),
        ):
            with self.assertRaises(BadFrame):
                function((3, 2, [1]), None)
            with self.assertRaises(BadPlacement) as caught:
                function(PIN, ((0, True),))
            self.assertEqual(caught.exception.number, 0)
        for value in STRANGE + (-1, 2, (0,), 10 ** 999):
            with self.assertRaises(BadBody) as caught:
                held_motions(PIN, ((0, 0),), value)
            self.assertIs(caught.exception.value, value)
