"""[96]: FREE SCREWS, TREE JOINTS, CHORDS, ROUNDS, LOOP MATRIX."""

import itertools
import math
import unittest

from bodybars.errors import Apart, BadFrame, BadJoint, BadPlacement, NotChord, NotSquare
from bodybars.loops import chords, free_screws, left_by_loops, loop_matrix, loop_pure, round_of, tree_joints
from bodybars.pures import pure
from tests.helper import (
    FRAMES, SIZE, STRANGE, draw_frames, draw_placement, drawn, placed_frames, slow_pieces, slow_rank, slow_rank_at,
    slow_rows, times,
)
from tests.squarehelp import NOT_SQUARE, placed_squares, slow_determinant

RING = (3, 4, (("pin", 1, 2), ("bar", 0, 1), ("pin", 0, 3), ("weld", 2, 3), ("bar", 0, 2)))
PLACES = ((3, 4), ((1, 2), (3, 5)), (4, 1), (), ((2, 2), (7, 3)))
APART = (3, 4, (("pin", 0, 1), ("bar", 0, 1), ("pin", 2, 3), ("bar", 2, 3), ("weld", 2, 3)))


def all_frames(seed, times_each):
    return placed_frames(seed, [*FRAMES, *draw_frames(seed + 1, times_each, 6, 9)])


def slow_screws(dimension, kind, thing):
    if dimension == 1 or kind == "weld":
        return ()
    if kind == "pin":
        return ((thing[1], -thing[0], 1),)
    row = slow_rows(dimension, "bar", thing)[0]
    if kind == "hinge":
        return (row[3:] + row[:3],)
    pivot = next(at for at in range(dimension) if row[at])
    told = []
    for place in range(dimension):
        if place != pivot:
            screw = [0] * dimension
            screw[place], screw[pivot] = row[pivot], -row[place]
            told.append(tuple(screw))
    return tuple(told)


def slow_tree(frame):
    told = []
    for joint, (_, a, b) in enumerate(frame[2]):
        marks = slow_pieces(frame[1], [frame[2][at][1:] for at in told])
        if marks[a] != marks[b]:
            told.append(joint)
    return tuple(told)


def slow_round(frame, chord):
    """By trying all rows of TREE JOINTS."""
    _, a, b = frame[2][chord]
    todo = [(((chord, 1),), b)]
    while todo:
        row, body = todo.pop()
        if body == a:
            return row
        for joint in slow_tree(frame):
            _, low, high = frame[2][joint]
            if body in (low, high) and joint not in [at for at, _ in row]:
                todo.append((row + ((joint, 1 if body == low else -1),), low + high - body))
    return None


def slow_loop_matrix(frame, placement):
    rows = []
    for chord in range(len(frame[2])):
        if chord in slow_tree(frame):
            continue
        signs = dict(slow_round(frame, chord))
        for place in range(frame[0]):
            row = []
            for joint, ((kind, _, _), thing) in enumerate(zip(frame[2], placement)):
                for screw in slow_screws(frame[0], kind, thing):
                    row.append(signs.get(joint, 0) * screw[place])
            rows.append(tuple(row))
    return tuple(rows)


class Screws(unittest.TestCase):
    def test_of_each_kind(self):
        self.assertEqual(free_screws(RING, PLACES, 0), ((4, -3, 1),))
        self.assertEqual(free_screws(RING, PLACES, 1), ((-3, 2, 0), (1, 0, 2)))
        self.assertEqual(free_screws(RING, PLACES, 3), ())
        space = (6, 2, (("hinge", 0, 1), ("bar", 0, 1), ("weld", 0, 1)))
        places = (((1, 0, 0), (1, 0, 2)), ((0, 0, 0), (0, 3, 0)), ())
        self.assertEqual(free_screws(space, places, 0), ((0, -2, 0, 0, 0, 2),))
        self.assertEqual(free_screws(space, places, 1), (
            (3, 0, 0, 0, 0, 0), (0, 0, 3, 0, 0, 0), (0, 0, 0, 3, 0, 0), (0, 0, 0, 0, 3, 0), (0, 0, 0, 0, 0, 3),
        ))
        self.assertEqual(free_screws(space, places, 2), ())
        self.assertEqual(free_screws((1, 2, (("bar", 0, 1),)), ((),), 0), ())
        self.assertEqual(free_screws((1, 2, (("weld", 0, 1),)), ((),), 0), ())

    def test_against_the_rows(self):
        for frame, placement in all_frames(600, 20):
            for joint, ((kind, _, _), thing) in enumerate(zip(frame[2], placement)):
                told = free_screws(frame, placement, joint)
                self.assertEqual(told, slow_screws(frame[0], kind, thing))
                self.assertEqual(len(told), frame[0] - SIZE[frame[0]][kind])
                self.assertEqual(slow_rank(told, frame[0]), len(told))
                for screw, row in itertools.product(told, slow_rows(frame[0], kind, thing)):
                    self.assertEqual(times(screw, row), 0)


class Rounds(unittest.TestCase):
    def test_examples(self):
        self.assertEqual(tree_joints(RING), (0, 1, 2))
        self.assertEqual(chords(RING), (3, 4))
        # From 3 over 0 and 1 to 2; from 2 over 1 to 0.
        self.assertEqual(round_of(RING, 3), ((3, 1), (2, -1), (1, 1), (0, 1)))
        self.assertEqual(round_of(RING, 4), ((4, 1), (0, -1), (1, -1)))
        two = (1, 2, (("bar", 0, 1), ("bar", 0, 1)))
        self.assertEqual(round_of(two, 1), ((1, 1), (0, -1)))
        self.assertEqual((tree_joints((6, 3, ())), chords((6, 3, ()))), ((), ()))

    def test_of_many_frames(self):
        several = 0
        for frame in [*FRAMES, *draw_frames(605, 30, 7, 12)]:
            tree = slow_tree(frame)
            self.assertEqual(tree_joints(frame), tree)
            rest = tuple(joint for joint in range(len(frame[2])) if joint not in tree)
            self.assertEqual(chords(frame), rest)
            for chord in rest[:8]:
                told = round_of(frame, chord)
                self.assertEqual(told, slow_round(frame, chord))
                several += len(told) > 2
        self.assertGreater(several, 20)

    def test_no_chords(self):
        for joint in (0, 1, 2):
            with self.assertRaises(NotChord) as caught:
                round_of(RING, joint)
            self.assertEqual(caught.exception.joint, joint)
        for joint in STRANGE + (-1, 5, 10 ** 999, (0,)):
            with self.assertRaises(BadJoint) as caught:
                round_of(RING, joint)
            self.assertIs(caught.exception.value, joint)
            with self.assertRaises(BadJoint) as caught:
                free_screws(RING, PLACES, joint)
            self.assertIs(caught.exception.value, joint)


class Matrix(unittest.TestCase):
    def test_by_its_words(self):
        for frame, placement in all_frames(610, 20):
            if len(frame[2]) < 20:
                self.assertEqual(loop_matrix(frame, placement), slow_loop_matrix(frame, placement))

    def test_an_example(self):
        frame = (3, 2, (("pin", 0, 1), ("pin", 0, 1)))
        self.assertEqual(loop_matrix(frame, ((3, 4), (5, 6))), ((-4, 6), (3, -5), (-1, 1)))
        self.assertEqual(loop_matrix((1, 2, (("bar", 0, 1),) * 3), ((), (), ())), ((), ()))
        self.assertEqual(loop_matrix((6, 3, ()), ()), ())

    def test_left(self):
        seen = set()
        for frame, placement in all_frames(615, 40):
            left = frame[0] * (frame[1] - 1) - slow_rank_at(frame, placement)
            self.assertEqual(left_by_loops(frame, placement), left)
            many = len(set(slow_pieces(frame[1], [joint[1:] for joint in frame[2]])))
            seen.add((frame[0], min(many, 3)))
        self.assertEqual(len(seen), 9)
        self.assertEqual(left_by_loops((6, 8, ()), ()), 42)
        self.assertEqual(left_by_loops((3, 1, ()), ()), 0)

    def test_square_frames(self):
        seen = set()
        for frame, placement in placed_squares(620, 40, {1: 5, 3: 4, 6: 4}):
            many = len(set(slow_pieces(frame[1], [joint[1:] for joint in frame[2]])))
            if many > 1:
                with self.assertRaises(Apart) as caught:
                    loop_pure(frame, placement)
                self.assertEqual(caught.exception.pieces, many)
                continue
            told = loop_pure(frame, placement)
            matrix = slow_loop_matrix(frame, placement)
            self.assertTrue(all(len(row) == len(matrix) for row in matrix))
            self.assertEqual(told, abs(slow_determinant(matrix)))
            bars, hinges = 1, 1
            for (kind, _, _), thing in zip(frame[2], placement):
                if frame[0] != 1 and kind in ("bar", "hinge"):
                    row = slow_rows(frame[0], "bar", thing)[0]
                    if kind == "bar":
                        bars *= next(number for number in row if number) ** (frame[0] - 2)
                    else:
                        hinges *= next(number for number in row[:3] if number) ** 4
            self.assertEqual(abs(pure(frame, placement) * bars), told * hinges)
            seen.add((frame[0], told != 0))
        # With D = 1 a SQUARE FRAME in one piece has no CHORD.
        self.assertEqual(seen, {(1, True), (3, True), (3, False), (6, True), (6, False)})
        self.assertEqual(math.prod(()), loop_pure((6, 1, ()), ()))

    def test_pieces(self):
        square = (3, 4, APART[2] + (("bar", 0, 1),) * 0)
        self.assertEqual(sum(SIZE[3][joint[0]] for joint in square[2]), 9)
        placement = draw_placement(drawn(1), square)
        with self.assertRaises(Apart) as caught:
            loop_pure(square, placement)
        self.assertEqual(caught.exception.pieces, 2)
        self.assertEqual(left_by_loops(square, placement), 3)

    def test_errors_in_their_order(self):
        for call in (tree_joints, chords, lambda frame: round_of(frame, None)):
            with self.assertRaises(BadFrame):
                call((3, 2, [1]))
        for call in (lambda *args: free_screws(*args, None), loop_matrix, left_by_loops, loop_pure):
            with self.assertRaises(BadFrame):
                call((3, 2, [1]), None)
            for placement, fault in ((None, -1), ((PLACES[0], None, None, None, None), 1)):
                with self.assertRaises(BadPlacement) as caught:
                    call(RING, placement)
                self.assertEqual(caught.exception.number, fault)
        for frame, rows, due in NOT_SQUARE:
            with self.assertRaises(BadPlacement):
                loop_pure(frame, None)
            if rows != due:
                with self.assertRaises(NotSquare) as caught:
                    loop_pure(frame, draw_placement(drawn(1), frame))
                self.assertEqual((caught.exception.rows, caught.exception.due), (rows, due))
        # Not SQUARE, and in several pieces.
        with self.assertRaises(NotSquare):
            loop_pure((3, 2, ()), ())
