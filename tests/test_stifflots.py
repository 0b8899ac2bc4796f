"""[80] to [82], [88]: stiff LOTS, greatest ones, the FRAME OF LOTS, MARKS."""

import itertools
import unittest

from bodybars.circles import circle_in
from bodybars.errors import BadBodies, BadFrame
from bodybars.extremes import least_partings
from bodybars.lattice import is_finer
from bodybars.made import placement_of_packing
from bodybars.stifflots import is_stiff, lot_marks, lots_frame, stiff_lots
from bodybars.sways import still_lots
from bodybars.woods import free_of, greatest_packing, rank_of
from tests.helper import FRAMES, SIZE, STRANGE, draw_frames, lots_from, slow_partings, slow_rank_of

FRAME = (3, 5, (("pin", 0, 3), ("bar", 1, 2), ("bar", 0, 3), ("weld", 2, 4), ("pin", 0, 1), ("bar", 0, 3), ("pin", 1, 4)))


def slow_own(frame, bodies):
    joints = tuple((k, bodies.index(a), bodies.index(b)) for k, a, b in frame[2] if a in bodies and b in bodies)
    return (frame[0], len(bodies), joints)


def slow_is_stiff(frame, bodies):
    """By the partings of the LOT, as [80] tells."""
    own = slow_own(frame, bodies)
    for parting in slow_partings(len(bodies)):
        crossing = sum(SIZE[frame[0]][kind] for kind, a, b in own[2] if parting[a] != parting[b])
        if crossing < frame[0] * (len(set(parting)) - 1):
            return False
    return True


def all_lots(many):
    return [lot for size in range(1, many + 1) for lot in itertools.combinations(range(many), size)]


def slow_greatest(frame):
    """For each body the greatest stiff LOT that it lies in."""
    stiff = [lot for lot in all_lots(frame[1]) if slow_is_stiff(frame, lot)]
    return [max((lot for lot in stiff if body in lot), key=len) for body in range(frame[1])]


class Lots(unittest.TestCase):
    def test_stiff_lots_of_bodies(self):
        words = []
        for frame in [*FRAMES[:10], *draw_frames(470, 40, 5, 9)]:
            if frame[1] > 5:
                continue
            for lot in all_lots(frame[1]):
                good = slow_is_stiff(frame, lot)
                self.assertIs(is_stiff(frame, lot), good)
                self.assertTrue(good or len(lot) > 1)
                words.append((good, len(lot) > 1))
        self.assertEqual(len(set(words)), 3)

    def test_greatest_ones(self):
        for frame in [*FRAMES[:10], *draw_frames(471, 60, 5, 9)]:
            if frame[1] > 5:
                continue
            parting = stiff_lots(frame)
            lots = slow_greatest(frame)
            self.assertEqual(parting, lots_from(lots))
            self.assertEqual(lots, [tuple(b for b in range(frame[1]) if parting[b] == lot) for lot in parting])
            for other in least_partings(frame):
                self.assertTrue(is_finer(other, parting))

    def test_frames_of_lots(self):
        self.assertEqual(stiff_lots(FRAME), (0, 1, 1, 0, 1))
        self.assertEqual(lots_frame(FRAME), (3, 2, (("pin", 0, 1),)))
        mixed = (3, 5, (("bar", 1, 2), ("weld", 0, 4), ("pin", 3, 4), ("bar", 2, 4), ("bar", 1, 4), ("bar", 0, 3)))
        self.assertEqual(stiff_lots(mixed), (0, 1, 2, 0, 0))
        self.assertEqual(lots_frame(mixed), (3, 3, (("bar", 1, 2), ("bar", 0, 2), ("bar", 0, 1))))
        for frame in [*FRAMES, *draw_frames(472, 40, 8, 20)]:
            told = lots_frame(frame)
            parting = stiff_lots(frame)
            joints = [(kind, *sorted((parting[a], parting[b]))) for kind, a, b in frame[2] if parting[a] != parting[b]]
            self.assertEqual(told, (frame[0], max(parting) + 1, tuple(joints)))
            free = frame[0] * max(parting) - sum(SIZE[frame[0]][kind] for kind, _, _ in joints)
            self.assertEqual(free_of(frame), free)
            self.assertEqual(free_of(told), free)
            self.assertEqual(stiff_lots(told), tuple(range(told[1])))
            self.assertEqual(rank_of(told), sum(SIZE[frame[0]][kind] for kind, _, _ in joints))

    def test_marks(self):
        self.assertEqual(lot_marks(FRAME), (((0, 3), 4, 1), ((1, 2, 4), 6, 0)))
        self.assertEqual(lot_marks((6, 3, ())), (((0,), 0, 0), ((1,), 0, 0), ((2,), 0, 0)))
        for frame in [*FRAMES, *draw_frames(473, 30, 6, 12)]:
            marks = lot_marks(frame)
            parting = stiff_lots(frame)
            self.assertEqual([row[0] for row in marks], [
                tuple(b for b in range(frame[1]) if parting[b] == lot) for lot in range(max(parting) + 1)
            ])
            for bodies, total, spare in marks:
                self.assertEqual(total, sum(SIZE[frame[0]][k] for k, a, b in frame[2] if a in bodies and b in bodies))
                self.assertEqual(spare, total - frame[0] * (len(bodies) - 1))
                self.assertGreaterEqual(spare, 0)
            rank = slow_rank_of(frame) if frame[1] <= 6 else rank_of(frame)
            self.assertEqual(sum(row[2] for row in marks), sum(SIZE[frame[0]][j[0]] for j in frame[2]) - rank)
            circle = circle_in(frame, tuple(range(len(frame[2]))))
            if circle is not None:
                self.assertEqual(len({parting[body] for joint in circle for body in frame[2][joint][1:]}), 1)

    def test_stiff_lots_stand_still_at_a_general_placement(self):
        # [155]; at special ones more bodies may stand still for the moment, or fewer.
        for frame in draw_frames(474, 25, 5, 9):
            placement = placement_of_packing(frame, greatest_packing(frame))
            self.assertTrue(is_finer(stiff_lots(frame), still_lots(frame, placement)))
        pins = (3, 4, (("pin", 0, 1), ("pin", 1, 2), ("pin", 2, 3), ("pin", 0, 3)))
        places = ((0, 0), (1, 0), (3, 0), (0, 2))
        self.assertEqual(stiff_lots(pins), (0, 1, 2, 3))
        self.assertEqual(still_lots(pins, places), (0, 1, 2, 0))

    def test_wrong_bodies(self):
        for bodies in STRANGE + (0, (), (1, 0), (0, 0), (5,), (-1,), [0], (0, True), (None,), (0, 10 ** 999)):
            with self.assertRaises(BadBodies) as caught:
                is_stiff(FRAME, bodies)
            self.assertIs(caught.exception.value, bodies)
        for call in (lambda frame: is_stiff(frame, None), stiff_lots, lots_frame, lot_marks):
            with self.assertRaises(BadFrame):
                call((3, 2, [1]))
