"""[85], [86]: PLANS of building."""

import unittest

from bodybars.building import building_plan, built, plan_fault
from bodybars.errors import BadDimension, BadFrame, BadPlan, NotJust
from bodybars.justbars import is_just_stiff
from tests.helper import STRANGE, Spiteful, drawn
from tests.test_justbars import EXAMPLE, NOT_JUST, just_frames

PLAN = (0, ((1, (), (0, 0, 0)), (2, (), (0, 1, 1))))
PINCHING = (0, ((1, (), (0, 0, 0)), (2, ((0, 1), (0, 1)), (1,))))


def pairs_of(frame):
    return sorted((a, b) for _, a, b in frame[2])


def slow_built(plan):
    """The pairs behind each step, and at last."""
    pairs = []
    for body, pinched, ends in plan[1]:
        for pair in pinched:
            pairs.remove(pair)
        for end in [*ends, *[end for pair in pinched for end in pair]]:
            pairs.append(tuple(sorted((end, body))))
    return sorted(pairs)


def frame_of(dimension, many, pairs):
    return (dimension, many, tuple(("bar", *pair) for pair in pairs))


class Plans(unittest.TestCase):
    def test_the_example(self):
        self.assertEqual(building_plan(EXAMPLE), PLAN)
        self.assertEqual(plan_fault(EXAMPLE, PLAN), "")
        self.assertEqual(built(3, PLAN), ((0, 1), (0, 1), (0, 1), (0, 2), (1, 2), (1, 2)))
        self.assertEqual(building_plan((6, 1, ())), (0, ()))
        self.assertEqual(building_plan((1, 2, (("bar", 0, 1),))), (0, ((1, (), (0,)),)))
        self.assertEqual(building_plan((1, 3, (("bar", 0, 1), ("bar", 0, 2)))), (0, ((1, (), (0,)), (2, (), (0,)))))

    def test_of_many_frames(self):
        pinched = set()
        for frame in just_frames(500, 20):
            plan = building_plan(frame)
            self.assertEqual(plan_fault(frame, plan), "")
            self.assertEqual(slow_built(plan), pairs_of(frame))
            self.assertEqual(built(frame[0], plan), tuple(pairs_of(frame)))
            # From the last one back: each time the greatest of the bodies with the fewest bars.
            first, steps = plan
            for many in range(len(steps), 0, -1):
                pairs = slow_built((first, steps[:many]))
                bodies = [first, *[step[0] for step in steps[:many]]]
                counts = {body: sum(body in pair for pair in pairs) for body in bodies}
                fewest = min(counts.values())
                self.assertEqual(steps[many - 1][0], max(body for body in bodies if counts[body] == fewest))
                pinched.add((frame[0], len(steps[many - 1][1])))
        self.assertIn((3, 1), pinched)
        self.assertIn((6, 2), pinched)

    def test_only_just_stiff_frames_have_plans(self):
        for frame in NOT_JUST:
            with self.assertRaises(NotJust):
                building_plan(frame)
            self.assertIn(plan_fault(frame, PLAN), ("body", "ends", "bars", "all", "pinched"))
        with self.assertRaises(BadFrame):
            building_plan((3, 2, [1]))

    def test_drawn_plans_build_just_stiff_frames(self):
        rng = drawn(501)
        for _ in range(40):
            dimension = rng.choice((1, 3, 6))
            many = rng.randint(1, 8 if dimension < 6 else 7)
            bodies = rng.sample(range(8), many)
            pairs, steps = [], []
            for at, body in enumerate(bodies[1:], start=1):
                pinched = sorted(rng.sample(pairs, min(len(pairs), rng.randint(0, dimension - 1))))
                ends = sorted(rng.choices(bodies[:at], k=dimension - len(pinched)))
                steps.append((body, tuple(pinched), tuple(ends)))
                pairs = slow_built((bodies[0], steps))
            plan = (bodies[0], tuple(steps))
            self.assertEqual(built(dimension, plan), tuple(pairs))
            anew = {body: at for at, body in enumerate(sorted(bodies))}
            frame = frame_of(dimension, many, [(anew[a], anew[b]) for a, b in pairs])
            self.assertIs(is_just_stiff(frame), True)
            renumbered = (anew[bodies[0]], tuple(
                (anew[body], tuple((anew[a], anew[b]) for a, b in pinched), tuple(anew[end] for end in ends))
                for body, pinched, ends in steps
            ))
            self.assertEqual(plan_fault(frame, renumbered), "")


class Faults(unittest.TestCase):
    def check(self, plan, word, frame=EXAMPLE):
        self.assertEqual(plan_fault(frame, plan), word)

    def check_built(self, plan, word, dimension=3):
        if word == "":
            built(dimension, plan)
            return
        with self.assertRaises(BadPlan) as caught:
            built(dimension, plan)
        self.assertEqual(caught.exception.word, word)

    def check_both(self, plan, word):
        self.check(plan, word)
        self.check_built(plan, word)

    def test_form(self):
        for plan in STRANGE + (0, (), (0,), (0, (), 1), [0, ()], (0, []), (8, ()), (-1, ()), (True, ()), (None, ())):
            self.check_both(plan, "form")
        for step in STRANGE + (0, (), (1, ()), (1, (), (0, 0, 0), 1), [1, (), (0, 0, 0)]):
            self.check_both((0, (step,)), "form")
        for body in STRANGE + (-1, 8, 10 ** 999, (0,)):
            self.check_both((body, ()), "form")
            self.check_both((0, ((body, (), (0, 0, 0)),)), "form")
            self.check_both((0, ((1, (), (0, 0, body)),)), "form")
            self.check_both((0, ((1, ((0, body),), (0, 0)),)), "form")
            self.check_both((0, ((1, ((body, 7),), (0, 0)),)), "form")
        for pinched in STRANGE + (0, (0, 1), ((0,),), ((0, 1, 2),), ([0, 1],), ((1, 0),), ((1, 1),), ((0, 2), (0, 1)), [(0, 1)]):
            self.check_both((0, ((1, pinched, (0, 0)),)), "form")
        for ends in STRANGE + (0, [0, 0, 0], (0, 1, 0), (1, 0, 0), ((0,),)):
            self.check_both((0, ((1, (), ends),)), "form")
        self.check_both((0, PLAN[1] + (None,)), "form")

    def test_each_word(self):
        first, steps = PLAN
        self.check_both(PLAN, "")
        self.check((3, steps), "body")
        self.check((7, ()), "body")
        self.check_built((7, ()), "")
        self.check_both((0, ((0, (), (0, 0, 0)), steps[1])), "body")
        self.check_both((0, (steps[0], (1, (), (0, 1, 1)))), "body")
        self.check((0, (steps[0], (3, (), (0, 1, 1)))), "body")
        self.check_built((0, (steps[0], (3, (), (0, 1, 1)))), "")
        self.check_both((0, (steps[0], (2, ((0, 1),) * 3, ()))), "pinched")
        self.check_both((0, ((1, ((0, 1),), (0, 0)), steps[1])), "pinched")
        self.check_both((0, (steps[0], (2, ((0, 2),), (0, 1)))), "pinched")
        self.check_both((0, ((1, (), (0, 0)), steps[1])), "ends")
        self.check_both((0, ((1, (), (0, 0, 0, 0)), steps[1])), "ends")
        self.check_both((0, ((1, (), (0, 0, 1)), steps[1])), "ends")
        self.check_both((0, ((1, (), (0, 0, 2)), steps[1])), "ends")
        self.check_both((0, (steps[0], (2, ((0, 1), (0, 1)), ()))), "ends")
        self.check_both((0, (steps[0], (2, ((0, 1), (0, 1)), (0, 1)))), "ends")
        self.check((0, steps[:1]), "all")
        self.check_built((0, steps[:1]), "")
        self.check(PINCHING, "bars")
        self.check_built(PINCHING, "")
        self.check((0, (steps[0], (2, (), (0, 0, 1)))), "bars")
        self.check((1, ((2, (), (1, 1, 1)), (0, (), (1, 1, 1)))), "bars")
        self.assertEqual(built(3, PINCHING), ((0, 1), (0, 2), (0, 2), (1, 2), (1, 2), (1, 2)))
        self.check(PINCHING, "", frame_of(3, 3, ((1, 2), (0, 1), (0, 2), (1, 2), (0, 2), (1, 2))))
        self.check((1, ((2, (), (1, 1, 1)), (0, ((1, 2),), (1, 1)))), "", EXAMPLE[:2] + ((("bar", 0, 1),) * 3 + (
            ("bar", 1, 2),) * 2 + (("bar", 0, 2),),))

    def test_pairs_that_stand_several_times(self):
        bars = (0, ((1, (), (0, 0, 0)),))
        for many, word in ((0, ""), (1, ""), (2, ""), (3, "pinched")):
            ends = (0,) * (3 - many)
            self.check_built((0, bars[1] + ((2, ((0, 1),) * many, ends),)), word)
        six = (0, ((1, (), (0,) * 6), (2, ((0, 1),) * 5, (1,)), (3, ((0, 1), (0, 1)), (0,) * 4)))
        self.check_built(six, "pinched", 6)
        self.check_built((0, six[1][:2]), "", 6)
        self.check_built((0, six[1][:2] + ((3, ((0, 1), (0, 2)), (0,) * 4),)), "", 6)

    def test_other_joints(self):
        plan = (0, ((1, (), (0, 0, 0)),))
        self.check(plan, "", (3, 2, (("bar", 0, 1),) * 3))
        self.check(plan, "bars", (3, 2, (("bar", 0, 1),) * 2 + (("pin", 0, 1),)))
        self.check(plan, "bars", (3, 2, (("bar", 0, 1),) * 2))
        self.check(plan, "bars", (3, 2, (("bar", 0, 1),) * 4))
        self.check((0, ((1, (), (0,)),)), "bars", (1, 2, (("weld", 0, 1),)))
        self.check(plan, "ends", (6, 2, (("weld", 0, 1),)))

    def test_the_first_of_several(self):
        self.check_both((0, ((0, ((0, 1),) * 3, (7,)), (1, (), Spiteful()))), "form")
        self.check_both((0, ((0, ((0, 1),) * 3, (7,)),)), "body")
        self.check_both((0, ((1, ((0, 1),) * 3, (7,)),)), "pinched")
        self.check_both((0, ((1, (), (7,)), (0, ((0, 1),) * 3, ()))), "ends")
        self.check((3, ((0, ((0, 1),) * 3, (7,)),)), "body")
        self.check((0, ((1, (), (0, 0, 0)),)), "all")

    def test_errors_in_their_order(self):
        for dimension in STRANGE + (0, 2, 10 ** 999):
            with self.assertRaises(BadDimension):
                built(dimension, None)
        with self.assertRaises(BadFrame):
            plan_fault((3, 2, [1]), Spiteful())
        self.assertEqual(built(6, (7, ())), ())
        self.assertEqual(built(1, (7, ((0, (), (7,)), (3, (), (0,))))), ((0, 3), (0, 7)))
