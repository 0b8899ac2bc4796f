"""[21], [22], [149]: the ROWS of joints, and MATRIX."""

import unittest

from bodybars.errors import BadFrame, BadJoint, BadPlacement
from bodybars.jointrows import joint_rows, matrix_of
from bodybars.rows import reduced, row_rank
from bodybars.screws import turn_about, work
from tests.helper import (
    FRAMES, SIZE, STRANGE, draw_frames, draw_place, drawn, placed_frames, slow_matrix, slow_null, slow_rows, times,
)
from tests.test_lines import FAR, draw_pair

PLANE = (3, 3, (("bar", 0, 1), ("pin", 1, 2), ("weld", 0, 2)))
PLANE_PLACED = (((1, 2), (4, 6)), (5, -7), ())
SPACE = (6, 2, (("bar", 0, 1), ("hinge", 0, 1), ("weld", 0, 1)))
SPACE_PLACED = (((1, 2, 3), (4, 6, 9)), ((1, 2, 3), (4, 6, 9)), ())


class Rows(unittest.TestCase):
    def test_of_the_line(self):
        frame = (1, 2, (("bar", 0, 1), ("weld", 0, 1)))
        self.assertEqual(joint_rows(frame, ((), ()), 0), ((1,),))
        self.assertEqual(joint_rows(frame, ((), ()), 1), ((1,),))

    def test_of_the_plane(self):
        self.assertEqual(joint_rows(PLANE, PLANE_PLACED, 0), ((3, 4, -2),))
        self.assertEqual(joint_rows(PLANE, PLANE_PLACED, 1), ((1, 0, 7), (0, 1, 5)))
        self.assertEqual(joint_rows(PLANE, PLANE_PLACED, 2), ((1, 0, 0), (0, 1, 0), (0, 0, 1)))

    def test_of_space(self):
        self.assertEqual(joint_rows(SPACE, SPACE_PLACED, 0), ((3, 4, 6, 0, 3, -2),))
        # a = (0, 3, -2, 3, 4, 6), and p is 3.
        self.assertEqual(joint_rows(SPACE, SPACE_PLACED, 1), (
            (3, 0, 0, 0, 0, 0), (0, 3, 0, -3, 0, 0), (0, 0, 3, 2, 0, 0), (0, 0, 0, -4, 3, 0), (0, 0, 0, -6, 0, 3),
        ))
        self.assertEqual(joint_rows(SPACE, SPACE_PLACED, 2), tuple(
            tuple(int(place == at) for place in range(6)) for at in range(6)
        ))

    def test_of_a_hinge_whose_axis_has_coordinates_of_one_kind(self):
        frame = (6, 2, (("hinge", 0, 1),))
        # a = (0, 0, 0, 0, 0, 2), and p is 5.
        self.assertEqual(joint_rows(frame, (((0, 0, 1), (0, 0, 3)),), 0), tuple(
            tuple(2 * int(place == at) for place in range(6)) for at in range(5)
        ))
        # a = (2, 0, -1, 0, 5, 0) for the way (0, 5, 0) through a place with P x Q = (-5 * z, 0, 5 * x); p is 4.
        told = joint_rows(frame, (((1, 0, 2), (1, 5, 2)),), 0)
        self.assertEqual(told, (
            (5, 0, 0, 0, 10, 0), (0, 5, 0, 0, 0, 0), (0, 0, 5, 0, -5, 0), (0, 0, 0, 5, 0, 0), (0, 0, 0, 0, 0, 5),
        ))

    def test_each_kind_has_rank_size(self):
        for frame, placement in placed_frames(161, [*FRAMES[:-2], *draw_frames(162, 60, 5, 8)], FAR):
            for joint, (kind, _, _) in enumerate(frame[2]):
                rows = joint_rows(frame, placement, joint)
                self.assertEqual(rows, slow_rows(frame[0], kind, placement[joint]))
                self.assertEqual(len(rows), SIZE[frame[0]][kind])
                self.assertEqual(row_rank(rows, frame[0]), len(rows))

    def test_pins_and_hinges_span_all_rows_without_work_on_the_turn(self):
        rng = drawn(163)
        for _ in range(100):
            place, pair = draw_place(rng, 2, FAR), draw_pair(rng, 6, rng.choice((1, FAR)))
            for frame, placement, turn in (
                ((3, 2, (("pin", 0, 1),)), (place,), turn_about(3, place)),
                ((6, 2, (("hinge", 0, 1),)), (pair,), turn_about(6, pair)),
            ):
                rows = joint_rows(frame, placement, 0)
                self.assertTrue(all(work(row, turn) == 0 for row in rows))
                self.assertEqual(reduced(rows, frame[0]), slow_null((turn,), frame[0]))

    def test_errors_in_their_order(self):
        with self.assertRaises(BadFrame):
            joint_rows(None, None, None)
        with self.assertRaises(BadPlacement) as caught:
            joint_rows(PLANE, PLANE_PLACED[:2], None)
        self.assertEqual(caught.exception.number, -1)
        for value in STRANGE + (-1, 3, (0,), 10 ** 999):
            with self.assertRaises(BadJoint) as caught:
                joint_rows(PLANE, PLANE_PLACED, value)
            self.assertIs(caught.exception.value, value)


class Matrix(unittest.TestCase):
    def test_worked_out_by_hand(self):
        self.assertEqual(matrix_of(PLANE, PLANE_PLACED), (
            (3, 4, -2, -3, -4, 2, 0, 0, 0),
            (0, 0, 0, 1, 0, 7, -1, 0, -7),
            (0, 0, 0, 0, 1, 5, 0, -1, -5),
            (1, 0, 0, 0, 0, 0, -1, 0, 0),
            (0, 1, 0, 0, 0, 0, 0, -1, 0),
            (0, 0, 1, 0, 0, 0, 0, 0, -1),
        ))
        self.assertEqual(matrix_of((1, 3, (("bar", 0, 2), ("weld", 1, 2))), ((), ())), ((1, 0, -1), (0, 1, -1)))
        self.assertEqual(matrix_of((6, 8, ()), ()), ())
        self.assertEqual(matrix_of((3, 1, ()), ()), ())
        self.assertEqual(
            matrix_of((6, 2, (("bar", 0, 1),)), (((1, 2, 3), (4, 6, 9)),)), ((3, 4, 6, 0, 3, -2, -3, -4, -6, 0, -3, 2),)
        )

    def test_drawn_ones(self):
        for frame, placement in placed_frames(164, [*FRAMES, *draw_frames(165, 60, 8, 12)], FAR):
            told = matrix_of(frame, placement)
            self.assertEqual(told, slow_matrix(frame, placement))
            for place in range(frame[0]):
                motion = tuple(int(column % frame[0] == place) for column in range(frame[0] * frame[1]))
                self.assertTrue(all(times(row, motion) == 0 for row in told))

    def test_errors_in_their_order(self):
        with self.assertRaises(BadFrame):
            matrix_of(None, None)
        with self.assertRaises(BadPlacement) as caught:
            matrix_of(PLANE, (((1, 2), (4, 6)), (5, True), None))
        self.assertEqual(caught.exception.number, 1)
