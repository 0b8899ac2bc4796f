"""[67]: joints that back one another."""

import itertools
import unittest

from bodybars.backing import back_classes, backing
from bodybars.errors import BadFrame, NotBars
from bodybars.losses import fall, falls
from tests.helper import FRAMES, draw_frames, drawn, slow_fall
from tests.test_losses import SMALL


def draw_bars(rng, many=4, most=9):
    bodies = rng.randint(2, many)
    pairs = list(itertools.combinations(range(bodies), 2))
    return (rng.choice((1, 3, 6)), bodies, tuple(("bar", *rng.choice(pairs)) for _ in range(rng.randint(0, most))))


class Backing(unittest.TestCase):
    def test_the_example_of_the_interface(self):
        self.assertEqual(backing((1, 2, (("bar", 0, 1),) * 3)), ())

    def test_examples(self):
        self.assertEqual(backing((1, 2, (("bar", 0, 1),) * 2)), ((0, 1),))
        self.assertEqual(backing((3, 2, (("bar", 0, 1),) * 4)), tuple(itertools.combinations(range(4), 2)))
        self.assertEqual(backing((3, 2, (("pin", 0, 1), ("bar", 0, 1), ("pin", 0, 1)))), ((0, 1), (0, 2), (1, 2)))
        self.assertEqual(backing((3, 2, (("weld", 0, 1), ("bar", 0, 1), ("weld", 0, 1)))), ((0, 2),))
        ring = (1, 4, (("bar", 0, 1), ("bar", 1, 2), ("bar", 0, 2), ("bar", 2, 3)))
        self.assertEqual(backing(ring), ((0, 1), (0, 2), (1, 2)))
        self.assertEqual(backing((6, 1, ())), ())

    def test_against_falls(self):
        some = 0
        for frame in [*SMALL, *draw_frames(321, 60, 4, 7)]:
            pairs = itertools.combinations(range(len(frame[2])), 2)
            due = [
                (one, other) for one, other in pairs
                if slow_fall(frame, (one, other)) > slow_fall(frame, (one,)) + slow_fall(frame, (other,))
            ]
            self.assertEqual(backing(frame), tuple(due))
            some += bool(due)
        self.assertGreater(some, 20)

    def test_large_frames(self):
        for frame in [FRAMES[-1], FRAMES[-2], *draw_frames(322, 2, 8, 30)]:
            single = falls(frame)
            due = []
            for one, other in itertools.combinations(range(len(frame[2])), 2):
                if fall(frame, (one, other)) > single[one] + single[other]:
                    due.append((one, other))
            self.assertEqual(backing(frame), tuple(due))


class Classes(unittest.TestCase):
    def test_examples(self):
        self.assertEqual(back_classes((1, 2, (("bar", 0, 1),) * 3)), ((0,), (1,), (2,)))
        self.assertEqual(back_classes((1, 2, (("bar", 0, 1),) * 2)), ((0, 1),))
        self.assertEqual(back_classes((1, 2, (("bar", 0, 1),))), ())
        self.assertEqual(back_classes((3, 2, (("bar", 0, 1),) * 4)), ((0, 1, 2, 3),))
        two = (1, 4, (("bar", 0, 1), ("bar", 2, 3), ("bar", 0, 1), ("bar", 1, 2), ("bar", 2, 3)))
        self.assertEqual(back_classes(two), ((0, 2), (1, 4)))
        self.assertEqual(back_classes((6, 8, ())), ())

    def test_drawn_ones(self):
        rng = drawn(323)
        sizes = set()
        for _ in range(150):
            frame = draw_bars(rng)
            told = back_classes(frame)
            pairs = set(backing(frame))
            harmless = [bar for bar in range(len(frame[2])) if slow_fall(frame, (bar,)) == 0]
            self.assertEqual(sorted(bar for bars in told for bar in bars), harmless)
            self.assertEqual([bars[0] for bars in told], sorted(bars[0] for bars in told))
            for bars in told:
                self.assertEqual(list(bars), sorted(bars))
                self.assertEqual(slow_fall(frame, bars), len(bars) - 1)
                sizes.add(len(bars))
            for one, other in itertools.combinations(harmless, 2):
                same = any(one in bars and other in bars for bars in told)
                self.assertIs(same, (one, other) in pairs)
        self.assertTrue({1, 2, 3, 4} <= sizes)

    def test_other_joints_than_bars(self):
        for frame in (
            (3, 2, (("pin", 0, 1),)), (1, 2, (("bar", 0, 1), ("weld", 0, 1))), (6, 2, (("bar", 0, 1),) * 39 + (("hinge", 0, 1),)),
        ):
            with self.assertRaises(NotBars):
                back_classes(frame)
        for function in (backing, back_classes):
            with self.assertRaises(BadFrame):
                function((3, 2, (("pin", 0, 1), ("pin", 1, 0))))
