"""[61], [62], [64]: SLACK, the cheapest LOSS that loosens, joints with told counts."""

import itertools
import unittest

from bodybars.errors import BadCosts, BadFrame, BadJoint, BadNumber, BadParting
from bodybars.lossbounds import joint_with, least_loss, slack
from bodybars.losses import fall, falls
from bodybars.woods import free_of, rank_of
from tests.helper import (
    FRAMES, SIZE, STRANGE, draw_frames, drawn, slow_bound, slow_fall, slow_is_packing, slow_packings, slow_partings,
    slow_rank_of,
)
from tests.test_losses import FRAME, SMALL, all_losses

DEAR = 10 ** 6


def crossing(frame, parting):
    """The SIZES of the joints between unlike lots, by the joint."""
    return {
        joint: SIZE[frame[0]][kind] for joint, (kind, a, b) in enumerate(frame[2]) if parting[a] != parting[b]
    }


class Slack(unittest.TestCase):
    def test_examples(self):
        self.assertEqual(slack(FRAME, (0, 0, 0)), 0)
        self.assertEqual(slack(FRAME, (0, 1, 2)), 7 - 6)
        self.assertEqual(slack((3, 3, ()), (0, 0, 1)), 3)

    def test_drawn_ones(self):
        for frame in [*SMALL, *draw_frames(291, 40, 4, 8)]:
            rank = slow_rank_of(frame)
            for parting in slow_partings(frame[1]):
                self.assertEqual(slack(frame, parting), slow_bound(frame, parting, frame[0]) - rank)

    def test_fall_by_slack(self):
        for frame in draw_frames(292, 20, 3, 6):
            for loss in all_losses(frame):
                told = []
                for parting in slow_partings(frame[1]):
                    there = crossing(frame, parting)
                    told.append(sum(there.get(joint, 0) for joint in loss) - slack(frame, parting))
                self.assertEqual(fall(frame, loss), max(told))

    def test_stiff_frames_that_stay_so(self):
        for frame in draw_frames(293, 60, 3, 7):
            if free_of(frame) == 0 and frame[1] > 1:
                for many in range(len(frame[2]) + 1):
                    due = True
                    for parting in slow_partings(frame[1])[1:]:
                        sizes = sorted(crossing(frame, parting).values())
                        left = sum(sizes[:max(0, len(sizes) - many)])
                        due = due and left >= frame[0] * (len(set(parting)) - 1)
                    losses = itertools.combinations(range(len(frame[2])), many)
                    self.assertIs(all(fall(frame, loss) == 0 for loss in losses), due)

    def test_errors_in_their_order(self):
        with self.assertRaises(BadFrame):
            slack((3, 2, [1]), None)
        for parting, place in ((None, -1), ((0, 0), -1), ((0, 2, 1), 1)):
            with self.assertRaises(BadParting) as caught:
                slack(FRAME, parting)
            self.assertEqual(caught.exception.place, place)


class LeastLoss(unittest.TestCase):
    def test_the_example_of_the_interface(self):
        self.assertEqual(least_loss((1, 2, (("bar", 0, 1),) * 3), (3, 1, 1)), (5, (0, 1, 2)))

    def test_examples(self):
        self.assertEqual(least_loss(FRAME, (1, 1, 1, 5)), (1, (0,)))
        self.assertEqual(least_loss(FRAME, (5, 1, 1, 5)), (2, (1, 2)))
        self.assertEqual(least_loss(FRAME, (5, 4, 4, 5)), (5, (0,)))
        self.assertEqual(least_loss(FRAME, (6, 4, 4, 5)), (5, (3,)))
        self.assertEqual(least_loss((3, 2, (("bar", 0, 1),)), (DEAR,)), (DEAR, (0,)))
        self.assertIsNone(least_loss((3, 2, ()), ()))
        self.assertIsNone(least_loss((6, 1, ()), ()))

    def test_against_all_losses(self):
        rng = drawn(294)
        for frame in [*SMALL, *draw_frames(295, 60, 4, 7)]:
            table = {loss: slow_fall(frame, loss) for loss in all_losses(frame)}
            for far in (1, 2, 5, DEAR):
                costs = tuple(rng.randint(1, far) for _ in frame[2])
                ways = [(sum(costs[joint] for joint in loss), loss) for loss, number in table.items() if number > 0]
                self.assertEqual(least_loss(frame, costs), min(ways) if ways else None)

    def test_large_frames(self):
        rng = drawn(296)
        for frame in draw_frames(297, 4, 8, 40):
            if not frame[2]:
                continue
            costs = tuple(rng.randint(1, 9) for _ in frame[2])
            cost, loss = least_loss(frame, costs)
            self.assertEqual(sum(costs[joint] for joint in loss), cost)
            self.assertGreater(fall(frame, loss), 0)
            for joint in loss:
                self.assertEqual(fall(frame, tuple(other for other in loss if other != joint)), 0)
            for _ in range(30):
                other = tuple(sorted(rng.sample(range(len(frame[2])), min(len(frame[2]), len(loss)))))
                price = (sum(costs[joint] for joint in other), other)
                self.assertTrue(price >= (cost, loss) or fall(frame, other) == 0)

    def test_many_alike_joints(self):
        frame = (3, 2, (("bar", 0, 1),) * 40)
        self.assertEqual(least_loss(frame, (1,) * 40), (38, tuple(range(38))))
        self.assertEqual(least_loss(frame, (DEAR,) * 40), (38 * DEAR, tuple(range(38))))
        self.assertEqual(least_loss(frame, (2, 2) + (1,) * 38), (38, tuple(range(2, 40))))
        welds = (6, 2, (("weld", 0, 1),) * 20 + (("hinge", 0, 1),) * 20)
        # Of 220 in all 215 must go: whatever stays is a single hinge.
        self.assertEqual(least_loss(welds, (1,) * 40), (39, tuple(range(39))))

    def test_errors_in_their_order(self):
        with self.assertRaises(BadFrame):
            least_loss((3, 2, [1]), None)
        for costs, place in ((None, -1), ((1, 1, 1), -1), ((1, 0, 1, None), 1), ((1, 1, 1, DEAR + 1), 3), ((True, 1, 1, 1), 0)):
            with self.assertRaises(BadCosts) as caught:
                least_loss(FRAME, costs)
            self.assertEqual(caught.exception.place, place)


class JointWith(unittest.TestCase):
    def check(self, frame, joint, many):
        packing = joint_with(frame, joint, many)
        self.assertTrue(slow_is_packing(frame, packing))
        self.assertEqual(sum(map(len, packing)), rank_of(frame))
        self.assertEqual(len(packing[joint]), many)

    def test_each_count(self):
        counts = set()
        for frame in [*SMALL, *draw_frames(298, 40, 4, 8)]:
            for joint, least in enumerate(falls(frame)):
                size = SIZE[frame[0]][frame[2][joint][0]]
                for many in range(least, size + 1):
                    self.check(frame, joint, many)
                    counts.add((frame[0], many))
                for many in (least - 1, size + 1, -1, 7):
                    with self.assertRaises(BadNumber) as caught:
                        joint_with(frame, joint, many)
                    self.assertEqual(caught.exception.value, many)
        self.assertTrue({(1, 0), (1, 1), (3, 2), (3, 3), (6, 4), (6, 5), (6, 6)} <= counts)

    def test_these_are_the_counts_of_greatest_packings(self):
        for frame in ((3, 3, (("pin", 0, 1), ("pin", 0, 1), ("bar", 0, 2))), (3, 2, (("weld", 0, 1), ("pin", 0, 1)))):
            packings = slow_packings(frame)
            most = max(sum(map(len, packing)) for packing in packings)
            for joint, least in enumerate(falls(frame)):
                met = {len(packing[joint]) for packing in packings if sum(map(len, packing)) == most}
                self.assertEqual(met, set(range(least, SIZE[3][frame[2][joint][0]] + 1)))

    def test_large_frames(self):
        for frame in [FRAMES[-1], FRAMES[-2], *draw_frames(299, 2, 8, 40)]:
            told = falls(frame)
            for joint in range(0, len(told), 7):
                for many in {told[joint], SIZE[frame[0]][frame[2][joint][0]]}:
                    self.check(frame, joint, many)

    def test_errors_in_their_order(self):
        with self.assertRaises(BadFrame):
            joint_with((3, 2, [1]), None, None)
        for joint in STRANGE + (-1, 4, 10 ** 999, (0,)):
            with self.assertRaises(BadJoint) as caught:
                joint_with(FRAME, joint, None)
            self.assertIs(caught.exception.value, joint)
        for many in STRANGE + (-1, 3, 10 ** 999, (0,)):
            with self.assertRaises(BadNumber) as caught:
                joint_with(FRAME, 0, many)
            self.assertIs(caught.exception.value, many)
        with self.assertRaises(BadJoint):
            joint_with((3, 2, ()), 0, 0)
