"""[60], [62]: LOSSES, their FALLS, needed joints, the worst fall."""

import itertools
import unittest

from bodybars.errors import BadFrame, BadLoss, BadNumber
from bodybars.losses import fall, falls, frame_without, need_loss, needed_joints, worst_fall
from bodybars.woods import rank_of
from tests.helper import FRAMES, SIZE, STRANGE, draw_frames, drawn, slow_fall, slow_without

SMALL = [frame for frame in FRAMES if frame[1] <= 4 and len(frame[2]) <= 8]
FRAME = (3, 3, (("pin", 0, 1), ("bar", 1, 2), ("bar", 1, 2), ("weld", 0, 2)))


def all_losses(frame, most=None):
    many = len(frame[2])
    for size in range((many if most is None else min(most, many)) + 1):
        yield from itertools.combinations(range(many), size)


class Losses(unittest.TestCase):
    def test_losses(self):
        for loss in ((), (0,), (3,), (0, 1, 2, 3), (1, 3)):
            self.assertEqual(need_loss(FRAME, loss), loss)
        self.assertEqual(need_loss((3, 1, ()), ()), ())

    def test_no_losses(self):
        for call in (need_loss, frame_without, fall):
            for loss in STRANGE + (0, (4,), (-1,), (1, 1), (2, 1), [1], (1, True), (0, None), (0, 10 ** 999), ((0,),)):
                with self.assertRaises(BadLoss) as caught:
                    call(FRAME, loss)
                self.assertIs(caught.exception.value, loss)
            with self.assertRaises(BadLoss):
                call((3, 1, ()), (0,))
            with self.assertRaises(BadFrame):
                call((3, 2, [1]), None)

    def test_frames_without(self):
        self.assertEqual(frame_without(FRAME, ()), FRAME)
        self.assertEqual(frame_without(FRAME, (0, 2)), (3, 3, (("bar", 1, 2), ("weld", 0, 2))))
        self.assertEqual(frame_without(FRAME, (0, 1, 2, 3)), (3, 3, ()))

    def test_examples(self):
        self.assertEqual(falls(FRAME), (1, 0, 0, 2))
        self.assertEqual(needed_joints(FRAME), (0, 3))
        self.assertEqual(fall(FRAME, (1, 2)), 1)
        self.assertEqual(fall(FRAME, (0,)), 1)
        self.assertEqual(fall(FRAME, (2,)), 0)
        self.assertEqual(fall(FRAME, (0, 1)), 2)
        self.assertEqual(fall(FRAME, (0, 1, 2, 3)), 6)
        self.assertEqual((falls((6, 1, ())), needed_joints((6, 1, ()))), ((), ()))

    def test_falls_of_all_losses_against_ranks(self):
        for frame in [*SMALL, *draw_frames(281, 30, 4, 7)]:
            told = {loss: fall(frame, loss) for loss in all_losses(frame)}
            for loss, number in told.items():
                self.assertEqual(number, slow_fall(frame, loss))
                self.assertEqual(number, rank_of(frame) - rank_of(frame_without(frame, loss)))
                self.assertEqual(frame_without(frame, loss), slow_without(frame, loss))
                self.assertLessEqual(number, sum(SIZE[frame[0]][frame[2][joint][0]] for joint in loss))
            for one, other in itertools.islice(itertools.combinations(told, 2), 300):
                both, common = tuple(sorted({*one, *other})), tuple(sorted({*one} & {*other}))
                self.assertGreaterEqual(told[both] + told[common], told[one] + told[other])
            self.assertEqual(falls(frame), tuple(told[joint,] for joint in range(len(frame[2]))))
            self.assertEqual(needed_joints(frame), tuple(joint for joint in range(len(frame[2])) if told[joint,]))

    def test_large_frames(self):
        for frame in draw_frames(282, 6, 8, 40):
            told = falls(frame)
            for joint, number in enumerate(told):
                self.assertEqual(number, rank_of(frame) - rank_of(frame_without(frame, (joint,))))


class Worst(unittest.TestCase):
    def test_examples(self):
        self.assertEqual(worst_fall(FRAME, 0), (0, ()))
        self.assertEqual(worst_fall(FRAME, 1), (2, (3,)))
        self.assertEqual(worst_fall(FRAME, 2), (4, (0, 3)))
        self.assertEqual(worst_fall(FRAME, 4), (6, (0, 1, 2, 3)))
        self.assertEqual(worst_fall((3, 2, (("bar", 0, 1),) * 5), 2), (0, (0, 1)))
        self.assertEqual(worst_fall((3, 2, (("bar", 0, 1),) * 5), 3), (1, (0, 1, 2)))
        self.assertEqual(worst_fall((3, 2, (("bar", 0, 1), ("pin", 0, 1), ("bar", 0, 1), ("pin", 0, 1))), 1), (0, (0,)))
        self.assertEqual(worst_fall((3, 2, (("bar", 0, 1), ("pin", 0, 1), ("bar", 0, 1), ("pin", 0, 1))), 2), (1, (1, 3)))
        self.assertEqual(worst_fall((6, 8, ()), 0), (0, ()))

    def test_against_all_losses(self):
        for frame in [*SMALL, *draw_frames(283, 40, 4, 7)]:
            table = {loss: slow_fall(frame, loss) for loss in all_losses(frame)}
            for many in range(len(frame[2]) + 1):
                losses = [loss for loss in table if len(loss) == many]
                worst = max(table[loss] for loss in losses)
                due = (worst, min(loss for loss in losses if table[loss] == worst))
                self.assertEqual(worst_fall(frame, many), due)

    def test_large_frames(self):
        rng = drawn(284)
        for frame in draw_frames(285, 4, 8, 40):
            many = rng.randint(0, len(frame[2]))
            worst, loss = worst_fall(frame, many)
            self.assertEqual((fall(frame, loss), len(loss)), (worst, many))
            for _ in range(30):
                other = tuple(sorted(rng.sample(range(len(frame[2])), many)))
                told = fall(frame, other)
                self.assertLessEqual(told, worst)
                self.assertTrue(told < worst or loss <= other)

    def test_wrong_numbers(self):
        for many in STRANGE + (-1, 5, 10 ** 999, (1,)):
            with self.assertRaises(BadNumber) as caught:
                worst_fall(FRAME, many)
            self.assertIs(caught.exception.value, many)
        with self.assertRaises(BadFrame):
            worst_fall((3, 2, [1]), None)
        for function in (falls, needed_joints):
            with self.assertRaises(BadFrame):
                function((3, 2, [1]))
