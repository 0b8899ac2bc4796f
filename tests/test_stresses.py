"""[151], [153]: FORCES, STRESSES, GRIP."""

import unittest

from bodybars.errors import BadFrame, BadJoint, BadPlacement
from bodybars.placed import left_at, rank_at
from bodybars.rows import reduced
from bodybars.stresses import grip, grips, is_stress, stresses_at
from tests.helper import (
    FRAMES, SIZE, STRANGE, Spiteful, draw_frames, drawn, placed_frames, slow_matrix, slow_null, slow_rank_at, slow_without,
)

TWO_BARS = (3, 2, (("bar", 0, 1), ("bar", 0, 1)))
ONE_LINE = (((0, 0), (1, 0)), ((5, 0), (3, 0)))
TWO_PINS = (3, 2, (("pin", 0, 1), ("bar", 0, 1), ("pin", 0, 1)))
PINNED = ((0, 0), ((0, 0), (2, 0)), (1, 0))


def slow_sizes(frame):
    return [SIZE[frame[0]][kind] for kind, _, _ in frame[2]]


def slow_cut(frame, row):
    forces, start = [], 0
    for size in slow_sizes(frame):
        forces.append(tuple(row[start:start + size]))
        start += size
    return tuple(forces)


def made(frame, placement, forces):
    """What FORCES make, by the words of [151]."""
    matrix = slow_matrix(frame, placement)
    row = [number for part in forces for number in part]
    assert len(row) == len(matrix)
    wide = frame[0] * frame[1]
    return tuple(sum(number * line[place] for number, line in zip(row, matrix)) for place in range(wide))


def slow_stresses(frame, placement):
    matrix = slow_matrix(frame, placement)
    columns = [tuple(row[place] for row in matrix) for place in range(frame[0] * frame[1])]
    return tuple(slow_cut(frame, row) for row in slow_null(columns, len(matrix))) if matrix else ()


class Stresses(unittest.TestCase):
    def test_examples(self):
        self.assertEqual(stresses_at(TWO_BARS, ONE_LINE), (((2,), (1,)),))
        self.assertEqual(stresses_at(TWO_BARS, (((0, 0), (1, 0)), ((5, 0), (3, 1)))), ())
        self.assertEqual(stresses_at((1, 2, (("bar", 0, 1), ("weld", 0, 1))), ((), ())), (((1,), (-1,)),))
        self.assertEqual(stresses_at(TWO_PINS, PINNED), (
            ((1, 0), (0,), (-1, 0)), ((0, 0), (1,), (-2, 0)),
        ))

    def test_without_joints(self):
        for frame in ((1, 1, ()), (3, 8, ()), (6, 1, ())):
            self.assertEqual(stresses_at(frame, ()), ())
            self.assertEqual(grips(frame, ()), ())
            self.assertIs(is_stress(frame, (), ()), True)
            self.assertIs(is_stress(frame, (), ((),)), False)

    def test_drawn_ones(self):
        some = 0
        for frame, placement in placed_frames(221, [*FRAMES[:-2], *draw_frames(222, 60, 4, 8)]):
            told = stresses_at(frame, placement)
            self.assertEqual(told, slow_stresses(frame, placement))
            rows = sum(slow_sizes(frame))
            self.assertEqual(len(told), rows - rank_at(frame, placement))
            self.assertEqual(len(told) - left_at(frame, placement), rows - frame[0] * (frame[1] - 1))
            for stress in told:
                self.assertFalse(any(made(frame, placement, stress)))
                self.assertIs(is_stress(frame, placement, stress), True)
            some += bool(told)
        self.assertGreater(some, 30)

    def test_many_joints(self):
        welds = (6, 8, (("weld", 0, 7),) * 40)
        told = stresses_at(welds, ((),) * 40)
        self.assertEqual(len(told), 240 - 6)
        self.assertEqual(grips(welds, ((),) * 40), (6,) * 40)
        bars = (3, 2, (("bar", 0, 1),) * 40)
        self.assertEqual(len(stresses_at(bars, (((0, 0), (1, 0)),) * 40)), 39)


class IsStress(unittest.TestCase):
    def test_sums_of_stresses(self):
        rng = drawn(223)
        seen = []
        for frame, placement in placed_frames(224, draw_frames(225, 60, 3, 8)):
            told = slow_stresses(frame, placement)
            parts = [rng.randint(-3, 3) for _ in told]
            row = [0] * sum(slow_sizes(frame))
            for part, stress in zip(parts, told):
                row = [number + part * more for number, more in zip(row, [n for thing in stress for n in thing])]
            if row and rng.random() < 0.5:
                row[rng.randrange(len(row))] += 1
            forces = slow_cut(frame, row)
            due = not any(made(frame, placement, forces))
            self.assertIs(is_stress(frame, placement, forces), due)
            seen.append(due)
        self.assertEqual(set(seen), {True, False})

    def test_values_of_any_kind(self):
        good = ((1, 0), (0,), (-1, 0))
        self.assertIs(is_stress(TWO_PINS, PINNED, good), True)
        self.assertIs(is_stress(TWO_PINS, PINNED, ((0, 0), (10 ** 999,), (-2 * 10 ** 999, 0))), True)
        self.assertIs(is_stress(TWO_PINS, PINNED, ((0, 0), (0,), (0, 0))), True)
        for value in STRANGE + (
            0, (), good[:2], good + ((),), list(good), (1, 0, 0, -1, 0), ((1, 0), (0, 0), (-1, 0)), ((1, 0), (), (-1, 0)),
            ((1, 0), 0, (-1, 0)), ([1, 0], (0,), (-1, 0)), ((0, 0), (False,), (0, 0)), ((0, 0), (None,), (0, 0)),
            (Spiteful(),) * 3, ((1, 0), (Spiteful(),), (-1, 0)), ((1, 0), (0,), (1, 0)), ((1, 1), (0,), (-1, 0)),
        ):
            self.assertIs(is_stress(TWO_PINS, PINNED, value), False)


class Grips(unittest.TestCase):
    def test_examples(self):
        self.assertEqual(grips(TWO_BARS, ONE_LINE), (1, 1))
        self.assertEqual(grips(TWO_BARS, (((0, 0), (1, 0)), ((5, 0), (3, 1)))), (0, 0))
        self.assertEqual(grips(TWO_PINS, PINNED), (1, 1, 1))
        self.assertEqual(grip(TWO_PINS, PINNED, 2), 1)
        self.assertEqual(grips((3, 2, (("pin", 0, 1), ("weld", 0, 1))), ((4, 5), ())), (2, 2))

    def test_against_the_rank_without_the_joint(self):
        seen = set()
        for frame, placement in placed_frames(226, [*FRAMES[3:-3], *draw_frames(227, 60, 4, 7)]):
            told = grips(frame, placement)
            rank = slow_rank_at(frame, placement)
            for joint, size in enumerate(slow_sizes(frame)):
                others = placement[:joint] + placement[joint + 1:]
                due = size - (rank - slow_rank_at(slow_without(frame, (joint,)), others))
                self.assertEqual(told[joint], due)
                self.assertEqual(grip(frame, placement, joint), due)
                seen.add((size, due))
        self.assertTrue({(1, 0), (1, 1), (2, 0), (2, 1), (2, 2), (5, 0), (6, 6)} <= seen)


class Errors(unittest.TestCase):
    def test_errors_in_their_order(self):
        for function in (
            stresses_at, grips, lambda frame, placement: is_stress(frame, placement, Spiteful()),
            lambda frame, placement: grip(frame, placement, None),
        ):
            with self.assertRaises(BadFrame):
                function((3, 2, [1]), None)
            with self.assertRaises(BadPlacement) as caught:
                function(TWO_PINS, PINNED[:2] + ((1, True),))
            self.assertEqual(caught.exception.number, 2)
        for value in STRANGE + (-1, 3, (0,), 10 ** 999):
            with self.assertRaises(BadJoint) as caught:
                grip(TWO_PINS, PINNED, value)
            self.assertIs(caught.exception.value, value)

    def test_the_list_is_reduced(self):
        rows = [tuple(n for part in stress for n in part) for stress in stresses_at(TWO_PINS, PINNED)]
        self.assertEqual(reduced(tuple(rows), 5), tuple(rows))
