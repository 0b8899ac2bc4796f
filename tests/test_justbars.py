"""[85], [86]: just stiff FRAMES and their trees at a body."""

import unittest

from bodybars.errors import BadBody, BadFrame, NotJust
from bodybars.justbars import is_just_stiff, trees_at
from tests.helper import FRAMES, STRANGE, draw_frames, drawn, slow_is_packing, slow_rank_of

EXAMPLE = (3, 3, (("bar", 0, 1),) * 3 + (("bar", 1, 2),) * 2 + (("bar", 0, 2),))
NOT_JUST = (
    (3, 3, EXAMPLE[2] + (("bar", 0, 1),)), (3, 3, EXAMPLE[2][:5]), (3, 2, (("weld", 0, 1),)), (1, 2, (("weld", 0, 1),)),
    (3, 2, (("pin", 0, 1), ("bar", 0, 1))), (3, 3, (("bar", 0, 1),) * 4 + (("bar", 1, 2),) * 2), (3, 2, ()),
    (3, 2, (("bar", 0, 1),) * 2 + (("pin", 0, 1),)), (6, 7, (("bar", 0, 1),) * 36),
)


def draw_just(rng, dimension, many):
    """A just stiff FRAME: built by steps that are drawn."""
    bodies, pairs = [0], []
    for body in range(1, many):
        pinched = rng.sample(pairs, min(len(pairs), rng.randint(0, dimension - 1)))
        for pair in pinched:
            pairs.remove(pair)
        ends = [end for pair in pinched for end in pair] + rng.choices(bodies, k=dimension - len(pinched))
        pairs += [(end, body) for end in ends]
        bodies.append(body)
    numbers = rng.sample(range(many), many)
    joints = [("bar", *sorted((numbers[a], numbers[b]))) for a, b in pairs]
    rng.shuffle(joints)
    return (dimension, many, tuple(joints))


def just_frames(seed, times):
    rng = drawn(seed)
    yield from ((dimension, 1, ()) for dimension in (1, 3, 6))
    yield EXAMPLE
    for _ in range(times):
        for dimension, most in ((1, 8), (3, 8), (6, 7)):
            yield draw_just(rng, dimension, rng.randint(2, most))


def bars_at(frame, body):
    return [joint for joint, (_, a, b) in enumerate(frame[2]) if body in (a, b)]


class Just(unittest.TestCase):
    def test_just_stiff_ones(self):
        for frame in just_frames(490, 12):
            self.assertIs(is_just_stiff(frame), True)

    def test_frames_near_them(self):
        for frame in NOT_JUST:
            self.assertIs(is_just_stiff(frame), False)
        for frame in just_frames(491, 8):
            if frame[1] > 1:
                self.assertIs(is_just_stiff((*frame[:2], frame[2][:-1])), False)
            if frame[1] > 1 and len(frame[2]) < 40:
                self.assertIs(is_just_stiff((*frame[:2], frame[2] + frame[2][:1])), False)
        words = set()
        for frame in [*FRAMES, *draw_frames(492, 100, 4, 9)]:
            if frame[1] > 5:
                continue
            bars = all(joint[0] == "bar" for joint in frame[2])
            due = frame[0] * (frame[1] - 1)
            good = bars and len(frame[2]) == due and slow_rank_of(frame) == due
            self.assertIs(is_just_stiff(frame), good)
            words.add(good)
        self.assertEqual(words, {True, False})

    def test_with_one_bar_elsewhere(self):
        rng = drawn(493)
        words = set()
        for frame in just_frames(494, 25):
            if 2 < frame[1] < 6:
                joints = list(frame[2])
                joints[rng.randrange(len(joints))] = ("bar", *sorted(rng.sample(range(frame[1]), 2)))
                changed = (*frame[:2], tuple(joints))
                good = slow_rank_of(changed) == frame[0] * (frame[1] - 1)
                self.assertIs(is_just_stiff(changed), good)
                words.add(good)
        self.assertEqual(words, {True, False})


class Trees(unittest.TestCase):
    def test_at_each_body(self):
        told = set()
        for frame in just_frames(495, 25):
            for body in range(frame[1]):
                many = len(bars_at(frame, body))
                packing = trees_at(frame, body)
                if many >= 2 * frame[0]:
                    self.assertIsNone(packing)
                    told.add((frame[0], None))
                    continue
                self.assertTrue(slow_is_packing(frame, packing))
                self.assertEqual(sum(map(len, packing)), frame[0] * (frame[1] - 1))
                rows = [packing[joint][0] for joint in bars_at(frame, body)]
                if frame[1] > 1:
                    counts = sorted(rows.count(number) for number in range(frame[0]))
                    twice = many - frame[0]
                    self.assertEqual(counts, [1] * (frame[0] - twice) + [2] * twice)
                    told.add((frame[0], twice))
        for dimension in (1, 3, 6):
            for twice in (None, *range(dimension)):
                self.assertIn((dimension, twice), told)

    def test_examples(self):
        self.assertEqual(trees_at((3, 1, ()), 0), ())
        self.assertEqual(sorted(trees_at((3, 2, (("bar", 0, 1),) * 3), 1)), [(0,), (1,), (2,)])
        self.assertIsNone(trees_at((1, 3, (("bar", 0, 1), ("bar", 1, 2))), 1))
        self.assertEqual(trees_at((1, 3, (("bar", 0, 1), ("bar", 1, 2))), 0), ((0,), (0,)))

    def test_errors_in_their_order(self):
        for call in (lambda frame: trees_at(frame, None), is_just_stiff):
            with self.assertRaises(BadFrame):
                call((3, 2, [1]))
        for frame in NOT_JUST:
            with self.assertRaises(NotJust):
                trees_at(frame, None)
        for body in STRANGE + (-1, 3, 10 ** 999, (0,)):
            with self.assertRaises(BadBody) as caught:
                trees_at(EXAMPLE, body)
            self.assertIs(caught.exception.value, body)
