"""[87]: the PLAIN CORE."""

import unittest

from bodybars.building import building_plan, plan_fault
from bodybars.cores import plain_core
from bodybars.errors import BadFrame, NotJust
from tests.helper import drawn
from tests.test_justbars import EXAMPLE, NOT_JUST, just_frames


def draw_core(rng, frame):
    """What is left if bodies with D bars go in an order that is drawn."""
    left = list(range(frame[1]))
    while len(left) > 1:
        going = []
        for body in left:
            if sum(body in (a, b) and a in left and b in left for _, a, b in frame[2]) == frame[0]:
                going.append(body)
        if not going:
            return tuple(left)
        left.remove(rng.choice(going))
    return ()


class Cores(unittest.TestCase):
    def test_whichever_body_goes_first(self):
        rng = drawn(510)
        kinds = set()
        for frame in just_frames(511, 40):
            told = plain_core(frame)
            for _ in range(3):
                self.assertEqual(draw_core(rng, frame), told)
            kinds.add((frame[0], told == (), len(told) == frame[1]))
            plan = building_plan(frame)
            if not any(step[1] for step in plan[1]):
                self.assertEqual(told, ())
        for dimension in (3, 6):
            self.assertLessEqual({(dimension, True, False), (dimension, False, True), (dimension, False, False)}, kinds)
        self.assertEqual({kind for kind in kinds if kind[0] == 1}, {(1, True, False)})

    def test_a_plan_without_pinched(self):
        # By the order in which bodies go, if all do.
        for frame in just_frames(512, 20):
            left, steps = list(range(frame[1])), []
            while len(left) > 1:
                for body in left:
                    ends = [a + b - body for _, a, b in frame[2] if body in (a, b) and a in left and b in left]
                    if len(ends) == frame[0]:
                        steps.append((body, (), tuple(sorted(ends))))
                        left.remove(body)
                        break
                else:
                    break
            word = plan_fault(frame, (left[0], tuple(steps[::-1])))
            self.assertEqual(word == "", plain_core(frame) == ())

    def test_examples(self):
        self.assertEqual(plain_core(EXAMPLE), ())
        self.assertEqual(plain_core((6, 1, ())), ())
        ring = (3, 3, (("bar", 0, 1),) * 2 + (("bar", 1, 2),) * 2 + (("bar", 0, 2),) * 2)
        self.assertEqual(plain_core(ring), (0, 1, 2))
        self.assertEqual(plain_core((3, 4, ring[2] + (("bar", 0, 3), ("bar", 1, 3), ("bar", 2, 3)))), (0, 1, 2))
        moved = tuple((kind, a + 1, b + 1) for kind, a, b in ring[2])
        self.assertEqual(plain_core((3, 4, moved + (("bar", 0, 3), ("bar", 0, 1), ("bar", 0, 2)))), (1, 2, 3))

    def test_errors(self):
        for frame in NOT_JUST:
            with self.assertRaises(NotJust):
                plain_core(frame)
        with self.assertRaises(BadFrame):
            plain_core((3, 2, [1]))
