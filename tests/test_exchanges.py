"""[42]: EXCHANGES."""

import itertools
import unittest

from bodybars.errors import BadExchange, BadFrame, BadPacking
from bodybars.exchanges import exchange_fault, exchange_of, exchanged, growing
from tests.helper import (
    FRAMES, SIZE, STRANGE, Spiteful, draw_frame, draw_frames, draw_packing, draw_stuck_packing, drawn, slow_bound,
    slow_is_packing, slow_partings, slow_way,
)

CUT_FRAME = (3, 3, (("bar", 0, 2), ("bar", 0, 1), ("bar", 0, 2), ("bar", 1, 2), ("bar", 1, 2)))
CUT_PACKING = ((), (0,), (1,), (0,), (1,))


def slow_fault(frame, packing, pairs):
    """The words of [42] but "form", each as a test over all places."""
    last = len(pairs) - 1
    ways = [slow_way(frame, packing, joint, number) for joint, number in pairs]
    joints = [joint for joint, _ in pairs]
    tests = (
        ("again", len(set(joints)) < len(joints)),
        ("full", len(packing[joints[0]]) == SIZE[frame[0]][frame[2][joints[0]][0]]),
        ("has", any(number in packing[joint] for joint, number in pairs)),
        ("way", any(joints[at + 1] not in (ways[at] or ()) for at in range(last))),
        ("end", ways[last] is not None),
        ("cut", any(
            pairs[i][1] == pairs[j - 1][1] and joints[j] in (ways[i] or ())
            for i in range(last) for j in range(i + 2, last + 1)
        )),
    )
    return next((word for word, holds in tests if holds), "")


def mostly(rng, good, anything):
    """One of the good ones, if there are any, but now and then anything."""
    return rng.choice(good) if good and rng.random() < 0.97 else rng.choice(anything)


def draw_walk(rng, frame, packing):
    """Pairs that mostly go on along ways, from a joint that isn't full to one without a way."""
    joints, numbers = range(len(frame[2])), range(frame[0])
    sizes = [SIZE[frame[0]][kind] for kind, _, _ in frame[2]]
    pairs = []
    joint = mostly(rng, [at for at in joints if len(packing[at]) < sizes[at]], joints)
    for _ in range(8):
        number = mostly(rng, [at for at in numbers if at not in packing[joint]], numbers)
        pairs.append((joint, number))
        way = slow_way(frame, packing, joint, number) or ()
        if not way:
            break
        joint = mostly(rng, [at for at in way if at not in [seen for seen, _ in pairs]], joints)
    return tuple(pairs)


class Faults(unittest.TestCase):
    def check(self, frame, packing, value, word):
        self.assertEqual(exchange_fault(frame, packing, value), word, value if word != "form" else "")
        if word != "":
            with self.assertRaises(BadExchange) as caught:
                exchanged(frame, packing, value)
            self.assertEqual(caught.exception.word, word)

    def test_form(self):
        for value in STRANGE + (
            0, (), ((0, 0), ()), ((0,),), ((0, 0, 0),), ([0, 0],), [(0, 0)], ((5, 0),), ((-1, 0),), ((0, 3),), ((0, -1),),
            ((True, 0),), ((0, False),), (("0", 0),), ((0, None),), ((0, 0), Spiteful()), ((0, Spiteful()),),
            ((1, 0), (1, 0), (9, 0)), ((10 ** 999, 0),), (0, 0),
        ):
            self.check(CUT_FRAME, CUT_PACKING, value, "form")
        self.check((3, 1, ()), (), ((0, 0),), "form")

    def test_each_word(self):
        for value, word in (
            (((0, 0), (1, 1), (0, 1)), "again"), (((1, 0), (1, 0)), "again"), (((1, 1),), "full"),
            (((1, 0),), "full"), (((0, 2), (1, 0)), "has"), (((0, 0), (3, 0)), "has"), (((0, 0), (2, 2)), "way"),
            (((0, 2), (1, 2)), "way"), (((0, 0),), "end"), (((0, 0), (1, 1)), "end"),
            (((0, 0), (1, 1), (2, 0), (3, 1)), "end"), (((0, 0), (1, 1), (2, 0), (3, 2)), "cut"), (((0, 2),), ""),
            (((0, 0), (1, 2)), ""), (((0, 1), (2, 2)), ""), (((0, 0), (1, 1), (4, 2)), ""),
        ):
            self.check(CUT_FRAME, CUT_PACKING, value, word)
            self.assertEqual(slow_fault(CUT_FRAME, CUT_PACKING, value), word)

    def test_the_first_of_several_words(self):
        for value, word in (
            (((1, 0), (1, 0), (5, 0)), "form"), (((1, 0), (2, 1), (1, 0)), "again"), (((1, 0), (2, 1)), "full"),
            (((0, 2), (4, 1)), "has"), (((0, 0), (2, 0), (3, 1)), "way"),
        ):
            self.check(CUT_FRAME, CUT_PACKING, value, word)

    def test_drawn_walks(self):
        rng = drawn(36)
        words = {}
        for turn in range(1500):
            frame = draw_frame(rng, rng.choice((1, 3, 3, 6)), rng.randint(2, 5), 14)
            if not frame[2]:
                continue
            if turn > 500:
                frame = (frame[0], frame[1], tuple(("bar", one, other) for _, one, other in frame[2]))
            packing = (draw_packing if turn < 1000 else draw_stuck_packing)(rng, frame)
            for _ in range(6):
                pairs = draw_walk(rng, frame, packing)
                word = slow_fault(frame, packing, pairs)
                words[word] = words.get(word, 0) + 1
                self.check(frame, packing, pairs, word)
                if word == "":
                    self.check_done(frame, packing, pairs)
        self.assertEqual(sorted(words), ["", "again", "cut", "end", "full", "has", "way"])

    def check_done(self, frame, packing, pairs):
        told = exchanged(frame, packing, pairs)
        self.assertTrue(slow_is_packing(frame, told))
        rows = [set(row) for row in packing]
        for at, (joint, number) in enumerate(pairs):
            rows[joint].add(number)
            if at > 0:
                rows[joint].remove(pairs[at - 1][1])
        self.assertEqual(told, tuple(tuple(sorted(row)) for row in rows))
        tally = [len(row) for row in packing]
        tally[pairs[0][0]] += 1
        self.assertEqual([len(row) for row in told], tally)

    def test_errors_in_their_order(self):
        for function in (exchange_fault, exchanged):
            with self.assertRaises(BadFrame):
                function(None, None, None)
            with self.assertRaises(BadPacking) as caught:
                function(CUT_FRAME, ((), (0,), (0,), (0,), ()), None)
            self.assertEqual(caught.exception.place, (3, 0))


class Exchanges(unittest.TestCase):
    def shortest(self, frame, packing, most):
        """How many pairs an EXCHANGE needs, by trying all rows of at most so many."""
        pairs = list(itertools.product(range(len(frame[2])), range(frame[0])))
        for many in range(1, most + 1):
            for row in itertools.product(pairs, repeat=many):
                if slow_fault(frame, packing, row) == "":
                    return many
        return None

    def test_none_has_fewer_pairs(self):
        rng = drawn(37)
        told = {}
        for turn in range(800):
            frame = draw_frame(rng, rng.choice((1, 3)), rng.randint(2, 3), 5)
            packing = (draw_packing if turn < 50 else draw_stuck_packing)(rng, frame)
            if turn > 100 and exchange_of(frame, packing) is None:
                continue
            pairs = exchange_of(frame, packing)
            many = None if pairs is None else len(pairs)
            told[many] = told.get(many, 0) + 1
            if many is None or many <= 3:
                self.assertEqual(self.shortest(frame, packing, 2 if many is None else many), many)
            if many is not None:
                self.assertEqual(exchange_fault(frame, packing, pairs), "")
        self.assertTrue({None, 1, 2} <= set(told), told)

    def test_one_exactly_if_the_packing_is_not_greatest(self):
        rng = drawn(38)
        for frame in FRAMES[:-2] + tuple(draw_frames(39, 80, 5, 10)):
            if frame[1] > 6:
                continue
            packing = rng.choice((draw_packing, draw_stuck_packing))(rng, frame)
            rank = min(slow_bound(frame, parting, frame[0]) for parting in slow_partings(frame[1]))
            pairs = exchange_of(frame, packing)
            self.assertEqual(pairs is None, sum(map(len, packing)) == rank)
            if pairs is not None:
                self.assertEqual(slow_fault(frame, packing, pairs), "")
            self.check_growing(frame, packing, rank)

    def check_growing(self, frame, packing, rank):
        steps = list(growing(frame, packing))
        self.assertEqual(len(steps), rank - sum(map(len, packing)))
        for step in steps:
            self.assertEqual(step, exchanged(frame, packing, exchange_of(frame, packing)))
            self.assertTrue(slow_is_packing(frame, step))
            packing = step
        self.assertIsNone(exchange_of(frame, packing))
        self.assertEqual(list(growing(frame, packing)), [])

    def test_long_exchanges(self):
        for frame, packing, many in (
            ((3, 3, (("bar", 0, 1), ("weld", 0, 2), ("bar", 1, 2), ("bar", 0, 1), ("bar", 0, 2))),
             ((0,), (2,), (0,), (1,), (1,)), 2),
            ((3, 4, (("weld", 0, 1), ("pin", 1, 3), ("pin", 1, 2), ("bar", 2, 3), ("bar", 0, 3))),
             ((0, 2), (1, 2), (0, 2), (0,), (1,)), 3),
        ):
            pairs = exchange_of(frame, packing)
            self.assertEqual(len(pairs), many)
            self.assertEqual(exchange_fault(frame, packing, pairs), "")
            self.assertIsNone(self.shortest(frame, packing, many - 1))

    def test_growing_is_asked_late(self):
        for frame, packing, error in ((None, None, BadFrame), (CUT_FRAME, None, BadPacking)):
            steps = growing(frame, packing)
            with self.assertRaises(error):
                next(steps)
        self.assertEqual(list(growing((3, 1, ()), ())), [])
        steps = growing(CUT_FRAME, CUT_PACKING)
        self.assertEqual(next(steps), exchanged(CUT_FRAME, CUT_PACKING, exchange_of(CUT_FRAME, CUT_PACKING)))
        self.assertIs(iter(steps), steps)

    def test_errors_in_their_order(self):
        with self.assertRaises(BadFrame):
            exchange_of(None, None)
        with self.assertRaises(BadPacking) as caught:
            exchange_of(CUT_FRAME, ())
        self.assertEqual(caught.exception.place, ())
