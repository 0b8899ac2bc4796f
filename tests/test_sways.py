"""[154], [155]: RELATIVE MOTIONS, SWAY, STILL LOTS, welds."""

import itertools
import unittest

from bodybars.errors import BadBody, BadFrame, BadParting, BadPlacement, TooMany
from bodybars.frames import own_frame
from bodybars.motions import motions_at
from bodybars.placed import is_general, left_at
from bodybars.sways import relative_motions, still_lots, sway, welded
from bodybars.woods import free_of, rank_of
from tests.helper import (
    FRAMES, SIZE, STRANGE, draw_frames, draw_parting, drawn, lots_from, placed_frames, slow_matrix, slow_null,
    slow_rank_at, slow_reduced,
)

# Of [155]: bodies 0 and 3 stand still for the moment.
RING = (3, 4, (("pin", 0, 1), ("pin", 1, 2), ("pin", 2, 3), ("pin", 0, 3)))
MOMENT = ((0, 0), (1, 0), (3, 0), (0, 2))


def slow_relative(frame, placement, one, other):
    dimension = frame[0]
    rows = []
    for motion in slow_null(slow_matrix(frame, placement), dimension * frame[1]):
        there = motion[dimension * other:dimension * (other + 1)]
        here = motion[dimension * one:dimension * (one + 1)]
        rows.append(tuple(a - b for a, b in zip(there, here)))
    return slow_reduced(rows, dimension)


class Sways(unittest.TestCase):
    def test_the_example(self):
        self.assertEqual((left_at(RING, MOMENT), free_of(RING)), (1, 1))
        self.assertEqual(sway(RING, MOMENT, 0, 3), 0)
        self.assertEqual(sway(RING, MOMENT, 0, 1), 1)
        self.assertEqual(still_lots(RING, MOMENT), (0, 1, 2, 0))
        square = ((0, 0), (1, 0), (1, 1), (0, 1))
        self.assertEqual(still_lots(RING, square), (0, 1, 2, 3))

    def test_examples(self):
        pin = (3, 2, (("pin", 0, 1),))
        self.assertEqual(relative_motions(pin, ((2, 5),), 0, 1), ((5, -2, 1),))
        self.assertEqual(relative_motions(pin, ((2, 5),), 1, 0), ((5, -2, 1),))
        self.assertEqual(relative_motions(pin, ((2, 5),), 1, 1), ())
        self.assertEqual(sway(pin, ((2, 5),), 0, 0), 0)
        self.assertEqual(relative_motions((3, 2, ()), (), 0, 1), ((1, 0, 0), (0, 1, 0), (0, 0, 1)))
        self.assertEqual(relative_motions((3, 2, (("weld", 0, 1),)), ((),), 0, 1), ())
        self.assertEqual(still_lots((3, 2, (("weld", 0, 1),)), ((),)), (0, 0))
        self.assertEqual(still_lots((6, 1, ()), ()), (0,))

    def test_drawn_ones(self):
        for frame, placement in placed_frames(241, [*FRAMES[3:-3], *draw_frames(242, 40, 4, 6)]):
            left = left_at(frame, placement)
            told = {}
            for one, other in itertools.product(range(frame[1]), repeat=2):
                rows = relative_motions(frame, placement, one, other)
                self.assertEqual(rows, slow_relative(frame, placement, one, other))
                told[one, other] = sway(frame, placement, one, other)
                self.assertEqual(told[one, other], len(rows))
                self.assertLessEqual(len(rows), left)
                if one < other:
                    more = (frame[0], frame[1], frame[2] + (("weld", one, other),))
                    grows = slow_rank_at(more, placement + ((),)) - slow_rank_at(frame, placement)
                    self.assertEqual(len(rows), grows)
            for (one, other), number in told.items():
                self.assertEqual(told[other, one], number)
                for third in range(frame[1]):
                    self.assertLessEqual(told[one, third], number + told[other, third])
            for kind, one, other in frame[2]:
                self.assertLessEqual(told[one, other], frame[0] - SIZE[frame[0]][kind])
            lots = lots_from([min(b for b in range(frame[1]) if told[a, b] == 0) for a in range(frame[1])])
            self.assertEqual(still_lots(frame, placement), lots)

    def test_at_general_placements(self):
        for frame, placement in placed_frames(243, draw_frames(244, 40, 4, 6)):
            if is_general(frame, placement):
                for one, other in itertools.combinations(range(frame[1]), 2):
                    more = (frame[0], frame[1], frame[2] + (("weld", one, other),))
                    self.assertLessEqual(sway(frame, placement, one, other), rank_of(more) - rank_of(frame))

    def test_stiff_lots_stand_still_at_general_placements(self):
        tried = 0
        for frame, placement in placed_frames(249, draw_frames(250, 60, 4, 7)):
            if not is_general(frame, placement):
                continue
            lots = still_lots(frame, placement)
            for many in range(2, frame[1] + 1):
                for bodies in itertools.combinations(range(frame[1]), many):
                    if free_of(own_frame(frame, bodies)) == 0:
                        self.assertEqual(len({lots[body] for body in bodies}), 1)
                        tried += 1
        self.assertGreater(tried, 100)

    def test_errors_in_their_order(self):
        for function in (relative_motions, sway, lambda frame, placement, one, other: still_lots(frame, placement)):
            with self.assertRaises(BadFrame):
                function((3, 2, [1]), None, None, None)
            with self.assertRaises(BadPlacement) as caught:
                function(RING, MOMENT[:3] + (None,), None, None)
            self.assertEqual(caught.exception.number, 3)
        for function in (relative_motions, sway):
            for value in STRANGE + (-1, 4, (0,), 10 ** 999):
                for one, other in ((value, None), (0, value), (3, value)):
                    with self.assertRaises(BadBody) as caught:
                        function(RING, MOMENT, one, other)
                    self.assertIs(caught.exception.value, value)


class Welds(unittest.TestCase):
    def test_examples(self):
        self.assertEqual(welded(RING, (0, 1, 2, 0)), (3, 4, RING[2] + (("weld", 0, 3),)))
        self.assertEqual(welded(RING, (0, 1, 2, 3)), RING)
        self.assertEqual(
            welded((1, 5, ()), (0, 1, 0, 1, 1)), (1, 5, (("weld", 0, 2), ("weld", 1, 3), ("weld", 1, 4)))
        )
        self.assertEqual(welded((6, 3, ()), (0, 0, 0)), (6, 3, (("weld", 0, 1), ("weld", 0, 2))))

    def test_drawn_ones(self):
        rng = drawn(245)
        for frame in draw_frames(246, 60, 8, 20):
            parting = draw_parting(rng, frame[1])
            lots = {lot: [body for body in range(frame[1]) if parting[body] == lot] for lot in parting}
            welds = [("weld", lots[lot][0], body) for lot in sorted(lots) for body in lots[lot][1:]]
            self.assertEqual(welded(frame, parting), (frame[0], frame[1], frame[2] + tuple(welds)))

    def test_welds_within_still_lots_leave_the_motions(self):
        for frame, placement in placed_frames(247, [RING, *draw_frames(248, 60, 5, 7)]):
            lots = still_lots(frame, placement)
            more = welded(frame, lots)
            placed = placement + ((),) * (len(more[2]) - len(frame[2]))
            self.assertEqual(motions_at(more, placed), motions_at(frame, placement))
        self.assertEqual(motions_at(welded(RING, (0, 1, 2, 0)), MOMENT + ((),)), motions_at(RING, MOMENT))

    def test_more_than_forty_joints(self):
        for joints, parting, fits in (
            (38, (0, 0, 0), True), (39, (0, 0, 0), False), (39, (0, 0, 1), True), (40, (0, 1, 0), False), (40, (0, 1, 2), True),
        ):
            frame = (3, 3, (("bar", 0, 1),) * joints)
            if fits:
                self.assertEqual(len(welded(frame, parting)[2]), joints + 3 - len(set(parting)))
                continue
            with self.assertRaises(TooMany) as caught:
                welded(frame, parting)
            self.assertEqual(caught.exception.most, 40)

    def test_errors_in_their_order(self):
        with self.assertRaises(BadFrame):
            welded((3, 3, [1]), None)
        full = (3, 3, (("bar", 0, 1),) * 40)
        for parting, place in ((None, -1), ((0, 0), -1), ((0, 0, 2), 2), ((0, True, 0), 1), ([0, 0, 0], -1)):
            with self.assertRaises(BadParting) as caught:
                welded(full, parting)
            self.assertEqual(caught.exception.place, place)
