"""[95]: COMPLEXES of bars and their CENTRES in the plane."""

import unittest

from bodybars.complexes import bar_centre, complex_of
from bodybars.errors import BadFrame, BadJoint, BadPlacement, NotBar, NotPlane, NotSquare
from bodybars.motions import is_motion, motions_at
from bodybars.pures import pure
from bodybars.rows import row_rank
from tests.helper import STRANGE, draw_place, draw_placement, drawn, slow_matrix, slow_rows, slow_without, times
from tests.squarehelp import NOT_SQUARE, placed_squares, slow_determinant

FRAME = (3, 3, (("pin", 0, 1), ("bar", 1, 2), ("pin", 0, 2), ("bar", 0, 2)))
PLACES = ((0, 0), ((1, 2), (3, 5)), (4, 1), ((2, 2), (7, 3)))


def barred(seed, tries):
    """SQUARE FRAMES with PLACEMENTS, and each of their bars."""
    for frame, placement in placed_squares(seed, tries, {1: 5, 3: 5, 6: 4}):
        for joint, (kind, _, _) in enumerate(frame[2]):
            if kind == "bar":
                yield frame, placement, joint


def slow_complex(frame, placement, joint):
    """By determinants of the changed MATRIX."""
    dimension, many, joints = frame
    start = sum(len(slow_rows(dimension, j[0], t)) for j, t in zip(joints[:joint], placement))
    told = []
    for place in range(dimension):
        row = [0] * (dimension * many)
        row[dimension * joints[joint][1] + place] = 1
        row[dimension * joints[joint][2] + place] = -1
        rows = list(slow_matrix(frame, placement))
        rows[start] = tuple(row)
        told.append(slow_determinant([wide[dimension:] for wide in rows]))
    return tuple(told)


def elsewhere(rng, frame, placement, joint):
    thing = () if frame[0] == 1 else tuple(rng.sample([draw_place(rng, 2 if frame[0] == 3 else 3) for _ in range(9)], 2))
    if thing and thing[0] == thing[1]:
        return placement
    return placement[:joint] + (thing,) + placement[joint + 1:]


class Complexes(unittest.TestCase):
    def test_by_their_words(self):
        seen = set()
        for frame, placement, joint in barred(590, 25):
            told = complex_of(frame, placement, joint)
            self.assertEqual(told, slow_complex(frame, placement, joint))
            seen.add((frame[0], any(told)))
        self.assertEqual(len(seen), 6)

    def test_the_same_for_all_places_of_the_bar(self):
        rng = drawn(591)
        for frame, placement, joint in barred(592, 20):
            told = complex_of(frame, placement, joint)
            for _ in range(3):
                moved = elsewhere(rng, frame, placement, joint)
                self.assertEqual(complex_of(frame, moved, joint), told)
                row = slow_rows(frame[0], "bar", moved[joint])[0]
                self.assertEqual(pure(frame, moved), times(row, told))

    def test_the_motion_without_the_bar(self):
        checked = set()
        for frame, placement, joint in barred(593, 20):
            told = complex_of(frame, placement, joint)
            left = slow_without(frame, (joint,))
            places = placement[:joint] + placement[joint + 1:]
            if not any(told):
                continue
            held = [
                motion for motion in motions_at(left, places)
            ]
            # All MOTIONS with 0 at body 0: one, but for multiples.
            dimension, (_, a, b) = frame[0], frame[2][joint]
            whole = len(held) - dimension
            self.assertEqual(whole, 1)
            rows = [
                tuple(m[dimension * a + at] - m[dimension * b + at] for at in range(dimension)) for m in held
            ]
            self.assertEqual(row_rank(tuple(rows), dimension), 1)
            self.assertEqual(row_rank((*rows, told), dimension), 1)
            self.assertTrue(all(is_motion(left, places, motion) for motion in held))
            checked.add(dimension)
        self.assertEqual(checked, {1, 3, 6})

    def test_centres_of_the_plane(self):
        seen = set()
        rng = drawn(594)
        for frame, placement, joint in barred(595, 150):
            if frame[0] != 3:
                continue
            z = complex_of(frame, placement, joint)
            x, y, w = bar_centre(frame, placement, joint)
            self.assertEqual((x, y, w), (-z[1], z[0], z[2]))
            for _ in range(6):
                moved = elsewhere(rng, frame, placement, joint)
                (px, py), (qx, qy) = moved[joint]
                through = (qx - px) * (y - w * py) == (qy - py) * (x - w * px)
                self.assertEqual(pure(frame, moved) == 0, through)
                seen.add((through, w == 0))
        self.assertEqual(len(seen), 4)

    def test_examples(self):
        # A pin and a bar between two bodies of the plane: the bar must not go through the pin.
        frame = (3, 2, (("pin", 0, 1), ("bar", 0, 1)))
        x, y, w = bar_centre(frame, ((4, 7), ((0, 0), (1, 0))), 1)
        self.assertNotEqual(w, 0)
        self.assertEqual((x, y), (4 * w, 7 * w))
        self.assertEqual(complex_of((1, 2, (("bar", 0, 1),)), ((),), 0), (-1,))
        self.assertEqual(bar_centre((3, 2, (("bar", 0, 1),) * 3), (((0, 0), (1, 1)),) * 3, 1), (0, 0, 0))

    def test_errors_in_their_order(self):
        for call in (complex_of, bar_centre):
            with self.assertRaises(BadFrame):
                call((3, 2, [1]), None, None)
            for placement, fault in ((None, -1), ((PLACES[0], None, None, None), 1)):
                with self.assertRaises(BadPlacement) as caught:
                    call(FRAME, placement, None)
                self.assertEqual(caught.exception.number, fault)
            for joint in STRANGE + (-1, 4, 10 ** 999, (0,)):
                with self.assertRaises(BadJoint) as caught:
                    call(FRAME, PLACES, joint)
                self.assertIs(caught.exception.value, joint)
            for joint in (0, 2):
                with self.assertRaises(NotBar) as caught:
                    call(FRAME, PLACES, joint)
                self.assertEqual(caught.exception.joint, joint)
        rng = drawn(596)
        for frame, rows, due in NOT_SQUARE:
            placement = draw_placement(rng, frame)
            if rows != due:
                with self.assertRaises(NotSquare) as caught:
                    complex_of(frame, placement, None)
                self.assertEqual((caught.exception.rows, caught.exception.due), (rows, due))
            with self.assertRaises(NotSquare if frame[0] == 3 else NotPlane):
                bar_centre(frame, placement, None)
            with self.assertRaises(BadPlacement):
                bar_centre(frame, None, None)
            if frame[0] != 3:
                with self.assertRaises(NotPlane) as caught:
                    bar_centre(frame, placement, None)
                self.assertEqual(caught.exception.dimension, frame[0])
