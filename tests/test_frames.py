"""[10], [30]: KINDS and SIZES, FRAMES, their faults, own frames."""

import unittest

from bodybars.errors import BadBodies, BadDimension, BadFrame
from bodybars.frames import frame_fault, is_frame, need_frame, own_frame, sizes
from bodybars.kinds import need_dimension, size_of
from tests.helper import FRAMES, KINDS, SIZE, STRANGE, Spiteful, draw_frames, drawn


class Kinds(unittest.TestCase):
    def test_dimensions(self):
        for value in (1, 3, 6):
            self.assertEqual(need_dimension(value), value)
        for value in STRANGE + (0, 2, 4, 5, 7, -1, 10 ** 999, (), (3,), 3.0):
            with self.assertRaises(BadDimension):
                need_dimension(value)

    def test_sizes_of_kinds(self):
        for dimension, table in SIZE.items():
            for kind, size in table.items():
                self.assertEqual(size_of(dimension, kind), size)


class Frames(unittest.TestCase):
    def check(self, value, word, *place):
        self.assertEqual(frame_fault(value), (word, place))
        self.assertIs(is_frame(value), False)
        with self.assertRaises(BadFrame) as caught:
            need_frame(value)
        self.assertEqual((caught.exception.word, caught.exception.place), (word, place))
        with self.assertRaises(BadFrame):
            sizes(value)

    def test_frames_have_no_fault(self):
        for frame in FRAMES + tuple(draw_frames(1, 100, 8, 40)):
            self.assertIsNone(frame_fault(frame))
            self.assertIs(is_frame(frame), True)
            self.assertEqual(need_frame(frame), frame)

    def test_no_tuple_of_three_things(self):
        for value in STRANGE + ((), (3, 2), (3, 2, (), ()), [3, 2, ()], 3, Spiteful()):
            self.check(value, "frame")

    def test_dimension(self):
        for value in STRANGE + (0, 2, -3, (3,), 10 ** 999):
            self.check((value, 9, None), "dimension", 0)

    def test_many(self):
        for value in STRANGE + (0, 9, -1, (), 10 ** 999):
            self.check((3, value, None), "many", 1)
        for many in range(1, 9):
            self.assertIsNone(frame_fault((3, many, ())))

    def test_joints(self):
        for value in STRANGE + (0, (("bar", 0, 1),) * 41, (None,) * 41, [("bar", 0, 1)]):
            self.check((3, 2, value), "joints", 2)
        self.assertIsNone(frame_fault((3, 2, (("bar", 0, 1),) * 40)))

    def test_joint(self):
        for value in STRANGE + (0, (), ("bar", 0), ("bar", 0, 1, 2), ["bar", 0, 1]):
            self.check((3, 2, (value,)), "joint", 2, 0)
            self.check((3, 2, (("bar", 0, 1), value, ("x", 0, 1))), "joint", 2, 1)

    def test_kind(self):
        strange = tuple(value for value in STRANGE if type(value) is not str)
        for value in strange + (0, (), "", "Bar", "bar ", "bars"):
            self.check((3, 2, ((value, 5, 5),)), "kind", 2, 0, 0)
        for dimension, kinds in KINDS.items():
            for kind in ("bar", "pin", "hinge", "weld"):
                frame = (dimension, 2, (("bar", 0, 1), (kind, 0, 1)))
                if kind in kinds:
                    self.assertIsNone(frame_fault(frame))
                else:
                    self.check(frame, "kind", 2, 1, 0)

    def test_bodies(self):
        for value in STRANGE + (-1, 3, 10 ** 999, ()):
            self.check((3, 4, (("bar", value, None),)), "body", 2, 0, 1)
        for value in STRANGE + (-1, 0, 1, 4, 10 ** 999, ()):
            self.check((3, 4, (("bar", 1, value),)), "body", 2, 0, 2)
        self.check((3, 4, (("bar", 2, 1),)), "body", 2, 0, 2)
        self.check((3, 1, (("bar", 0, 1),)), "body", 2, 0, 1)
        self.check((3, 2, (("bar", 1, 1),)), "body", 2, 0, 1)
        self.check((3, 8, (("bar", 0, 1),) * 39 + (("bar", 6, 8),)), "body", 2, 39, 2)
        self.assertIsNone(frame_fault((3, 4, (("bar", 2, 3), ("bar", 0, 3), ("bar", 0, 1)))))

    def test_the_first_of_several_faults(self):
        bad = ("x", 0, 0)
        self.check((2, 0, None), "dimension", 0)
        self.check((3, 0, None), "many", 1)
        self.check((3, 2, (bad,) * 41), "joints", 2)
        self.check((3, 2, (("bar", 0, 1), ("bar", 0, 0), bad, None)), "body", 2, 1, 2)
        self.check((6, 3, (("pin", 7, 7),)), "kind", 2, 0, 0)
        self.check((6, 3, (("weld", 7, 7),)), "body", 2, 0, 1)

    def test_sizes(self):
        self.assertEqual(sizes((1, 2, (("weld", 0, 1), ("bar", 0, 1)))), (1, 1))
        self.assertEqual(sizes((3, 2, (("weld", 0, 1), ("bar", 0, 1), ("pin", 0, 1)))), (3, 1, 2))
        self.assertEqual(sizes((6, 2, (("weld", 0, 1), ("bar", 0, 1), ("hinge", 0, 1)))), (6, 1, 5))
        self.assertEqual(sizes((6, 1, ())), ())


class OwnFrames(unittest.TestCase):
    frame = (3, 5, (("pin", 0, 1), ("bar", 1, 4), ("weld", 2, 4), ("bar", 1, 4), ("bar", 1, 2)))

    def test_joints_between_the_bodies(self):
        self.assertEqual(
            own_frame(self.frame, (1, 2, 4)),
            (3, 3, (("bar", 0, 2), ("weld", 1, 2), ("bar", 0, 2), ("bar", 0, 1))),
        )
        self.assertEqual(own_frame(self.frame, (3,)), (3, 1, ()))
        self.assertEqual(own_frame(self.frame, (0, 3)), (3, 2, ()))
        self.assertEqual(own_frame(self.frame, (0, 1, 2, 3, 4)), self.frame)

    def test_drawn_ones_step_by_step(self):
        rng = drawn(2)
        for frame in draw_frames(3, 50, 8, 20):
            many = rng.randint(1, frame[1])
            bodies = tuple(sorted(rng.sample(range(frame[1]), many)))
            own = own_frame(frame, bodies)
            self.assertTrue(is_frame(own))
            told = [(kind, bodies[one], bodies[other]) for kind, one, other in own[2]]
            self.assertEqual(told, [joint for joint in frame[2] if set(joint[1:]) <= set(bodies)])
            self.assertEqual(own[:2], (frame[0], many))

    def test_no_such_bodies(self):
        wrong = STRANGE + ((), (5,), (-1,), (1, 1), (2, 1), (0, True), (0, "1"), (0, 1, 2, 3, 4, 5), 0, ((0,),))
        for value in wrong:
            with self.assertRaises(BadBodies) as caught:
                own_frame(self.frame, value)
            self.assertIs(caught.exception.value, value)
