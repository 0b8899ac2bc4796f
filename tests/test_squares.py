"""[90]: SQUARE FRAMES and their ROWS."""

import unittest

from bodybars.errors import BadFrame, NotSquare
from bodybars.squares import is_square, need_square, row_joints
from tests.helper import FRAMES, SIZE, draw_frames
from tests.squarehelp import NOT_SQUARE, square_frames


class Squares(unittest.TestCase):
    def test_square_ones(self):
        for frame in square_frames(520, 10):
            self.assertIs(is_square(frame), True)
            self.assertEqual(need_square(frame), frame)

    def test_other_ones(self):
        for frame, rows, due in NOT_SQUARE:
            if rows == due:
                self.assertIs(is_square(frame), True)
                continue
            self.assertIs(is_square(frame), False)
            with self.assertRaises(NotSquare) as caught:
                need_square(frame)
            self.assertEqual((caught.exception.rows, caught.exception.due), (rows, due))
        for frame in [*FRAMES, *draw_frames(521, 40, 8, 12)]:
            rows, due = sum(SIZE[frame[0]][joint[0]] for joint in frame[2]), frame[0] * (frame[1] - 1)
            self.assertIs(is_square(frame), rows == due)

    def test_row_joints(self):
        self.assertEqual(row_joints((3, 3, (("pin", 0, 1), ("bar", 1, 2), ("weld", 0, 2)))), (0, 0, 1, 2, 2, 2))
        self.assertEqual(row_joints((6, 2, (("bar", 0, 1), ("hinge", 0, 1)))), (0, 1, 1, 1, 1, 1))
        self.assertEqual(row_joints((6, 2, ())), ())
        self.assertEqual(row_joints((1, 2, (("weld", 0, 1), ("bar", 0, 1)))), (0, 1))
        for frame in draw_frames(522, 20, 8, 40):
            due = [at for at, joint in enumerate(frame[2]) for _ in range(SIZE[frame[0]][joint[0]])]
            self.assertEqual(row_joints(frame), tuple(due))

    def test_wrong_frames(self):
        for call in (is_square, need_square, row_joints):
            with self.assertRaises(BadFrame):
                call((3, 2, [1]))
