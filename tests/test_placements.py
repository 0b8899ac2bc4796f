"""[20], [50]: PLACEMENTS."""

import unittest

from bodybars.errors import BadFrame, BadPlacement
from bodybars.placements import need_placement, placement_fault
from tests.helper import FRAMES, STRANGE, Spiteful, draw_frames, draw_placement, drawn

FAR = 10 ** 9
PLANE = (3, 3, (("bar", 0, 1), ("pin", 1, 2), ("weld", 0, 2)))
SPACE = (6, 3, (("bar", 0, 1), ("hinge", 1, 2), ("weld", 0, 2)))


class Placements(unittest.TestCase):
    def check(self, frame, value, fault):
        self.assertEqual(placement_fault(frame, value), fault)
        if fault is None:
            self.assertEqual(need_placement(frame, value), value)
            return
        with self.assertRaises(BadPlacement) as caught:
            need_placement(frame, value)
        self.assertEqual(caught.exception.number, fault)

    def test_drawn_ones(self):
        rng = drawn(26)
        for frame in FRAMES + tuple(draw_frames(27, 60, 8, 40)):
            for far in (1, FAR):
                self.check(frame, draw_placement(rng, frame, far), None)

    def test_each_kind(self):
        self.check(PLANE, (((0, 0), (0, 1)), (5, -5), ()), None)
        self.check(PLANE, (((FAR, -FAR), (-FAR, FAR)), (FAR, FAR), ()), None)
        self.check(SPACE, (((0, 0, 0), (0, 0, 1)), ((1, 2, 3), (FAR, -FAR, FAR)), ()), None)
        self.check((1, 2, (("bar", 0, 1), ("weld", 0, 1))), ((), ()), None)
        self.check((6, 1, ()), (), None)

    def test_no_tuple_with_a_thing_for_each_joint(self):
        for value in STRANGE + (0, (), ((), ()), ((), (), (), ()), [((0, 0), (0, 1)), (0, 0), ()]):
            self.check(PLANE, value, -1)
        self.check((3, 1, ()), ((),), -1)

    def test_things_that_do_not_place_a_bar_of_the_plane(self):
        for thing in STRANGE + (
            0, (), (0, 0), ((0, 0),), ((0, 0), (1, 1), (2, 2)), [(0, 0), (1, 1)], ((0, 0), [1, 1]), ((0, 0), (0, 0)),
            ((0, 0), (1,)), ((0, 0), (1, 1, 1)), ((0, 0, 0), (1, 1)), ((0, 0), (0, True)), ((False, 0), (1, 1)),
            ((0, FAR + 1), (0, 0)), ((0, 0), (-FAR - 1, 0)), ((0, 0), (0, 10 ** 999)), ((0, 0), (0, "1")),
            ((0, 0, 0), (1, 1, 1)), ((0, 0), None), (None, (0, 0)), ((0, 0), (0, Spiteful())), ((0, 0), (0, None)),
        ):
            self.check(PLANE, (thing, None, None), 0)

    def test_things_that_do_not_place_a_pin(self):
        good = ((0, 0), (1, 1))
        for thing in STRANGE + (
            0, (), (0,), (0, 0, 0), ((0, 0),), ((0, 0), (1, 1)), [0, 0], (0, True), (FAR + 1, 0), (0, -FAR - 1), (0, ""),
        ):
            self.check(PLANE, (good, thing, None), 1)

    def test_things_that_do_not_place_joints_of_space(self):
        good = ((0, 0, 0), (1, 1, 1))
        for thing in STRANGE + (
            0, (), (0, 0, 0), ((0, 0, 0),), ((0, 0, 0), (0, 0, 0)), ((0, 0), (1, 1)), ((0, 0, 0), (1, 1)),
            ((0, 0, 0), (0, 0, True)), ((0, 0, 0), (0, 0, FAR + 1)), [(0, 0, 0), (1, 1, 1)], ((0, 0, 0), (1, 1, 1), ()),
        ):
            self.check(SPACE, (thing, None, None), 0)
            self.check(SPACE, (good, thing, None), 1)

    def test_things_that_do_not_place_a_weld_or_a_joint_of_the_line(self):
        for thing in STRANGE + (0, (0,), (0, 0), ((),)):
            self.check(PLANE, (((0, 0), (1, 1)), (0, 0), thing), 2)
            self.check(SPACE, (((0, 0, 0), (1, 1, 1)),) * 2 + (thing,), 2)
            self.check((1, 2, (("bar", 0, 1), ("weld", 0, 1))), (thing, None), 0)
            self.check((1, 2, (("bar", 0, 1), ("weld", 0, 1))), ((), thing), 1)

    def test_the_first_of_several_joints(self):
        frame = (3, 2, (("pin", 0, 1),) * 5)
        self.check(frame, ((0, 0), (0, 0), (0, True), (0, 0), None), 2)

    def test_the_frame_is_asked_first(self):
        for function in (placement_fault, need_placement):
            with self.assertRaises(BadFrame):
                function((3, 2, ()) + ((),), None)
