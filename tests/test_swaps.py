"""[46]: greatest TALLIES and swaps between two of them."""

import itertools
import unittest

from bodybars.errors import BadFrame, BadJoint, BadTally, NotGreatest, TooGreat
from bodybars.swaps import greatest_tallies, is_greatest_tally, swap_of
from bodybars.tallies import is_met
from bodybars.woods import rank_of
from tests.helper import SIZE, STRANGE, draw_frames, slow_packings

PINS = (3, 3, (("pin", 0, 1), ("pin", 0, 1), ("pin", 1, 2), ("bar", 0, 2)))


def small_frames(seed, times):
    for frame in draw_frames(seed, times, 4, 5):
        product = 1
        for kind, _, _ in frame[2]:
            product *= SIZE[frame[0]][kind] + 1
        if product <= 300:
            yield frame


class Greatest(unittest.TestCase):
    def test_all_of_small_frames(self):
        for frame in small_frames(55, 60):
            rank = rank_of(frame)
            told = greatest_tallies(frame)
            self.assertEqual(list(told), sorted(set(told)))
            for tally in itertools.product(*[range(SIZE[frame[0]][kind] + 1) for kind, _, _ in frame[2]]):
                good = sum(tally) == rank and is_met(frame, tally)
                self.assertIs(is_greatest_tally(frame, tally), good)
                self.assertEqual(tally in told, good)
            if frame[0] != 6 and len(frame[2]) <= 4:
                slow = {tuple(map(len, p)) for p in slow_packings(frame) if sum(map(len, p)) == rank}
                self.assertEqual(set(told), slow)

    def test_examples(self):
        self.assertEqual(
            greatest_tallies((3, 2, (("pin", 0, 1), ("pin", 0, 1)))), ((1, 2), (2, 1)),
        )
        self.assertEqual(greatest_tallies((3, 1, ())), ((),))
        self.assertEqual(greatest_tallies((6, 2, (("hinge", 0, 1), ("bar", 0, 1)))), ((5, 1),))
        self.assertIs(is_greatest_tally((3, 1, ()), ()), True)
        self.assertIs(is_greatest_tally(PINS, (2, 2, 2, 0)), False)

    def test_too_many(self):
        def welds(pins, bars, welded=0):
            joints = (("weld", 0, 1),) * welded + (("pin", 0, 1),) * pins + (("bar", 0, 1),) * bars
            return (3, 2, joints)

        self.assertEqual(len(greatest_tallies(welds(0, 9))), 84)
        for frame in (welds(0, 10), welds(0, 40), welds(6, 1), welds(7, 0)):
            with self.assertRaises(TooGreat) as caught:
                greatest_tallies(frame)
            self.assertEqual(caught.exception.most, 1000)
        self.assertEqual(len(greatest_tallies(welds(6, 0))), 20 + 30)

    def test_the_nearest_to_a_thousand(self):
        # The factors are 2, 3, 4 in the plane, 2, 6, 7 in space: they make 972 and 1,008, but never 1,000.
        factors = {size + 1 for table in SIZE.values() for size in table.values()}
        self.assertEqual(factors, {2, 3, 4, 6, 7})
        self.assertTrue(greatest_tallies((3, 2, (("pin", 0, 1),) * 5 + (("weld", 0, 1),))))
        self.assertTrue(greatest_tallies((6, 3, (("weld", 0, 1), ("weld", 1, 2), ("hinge", 0, 2), ("bar", 0, 1)))))
        space = (6, 2, (("weld", 0, 1), ("hinge", 0, 1), ("hinge", 0, 1), ("bar", 0, 1), ("bar", 0, 1)))
        for frame in (space, (3, 2, (("weld", 0, 1),) * 5), (1, 2, (("bar", 0, 1),) * 10)):
            with self.assertRaises(TooGreat) as caught:
                greatest_tallies(frame)
            self.assertEqual(caught.exception.most, 1000)

    def test_errors_in_their_order(self):
        with self.assertRaises(BadFrame):
            greatest_tallies((3, 2, (("bar", 0, 1),) * 41))
        with self.assertRaises(BadFrame):
            is_greatest_tally(None, None)
        for value, place in ((None, -1), ((3, 0, 0, 0), 0), ((0, 0, 0, True), 3)):
            with self.assertRaises(BadTally) as caught:
                is_greatest_tally(PINS, value)
            self.assertEqual(caught.exception.place, place)


class Swaps(unittest.TestCase):
    def slow_swap(self, frame, tally, other, joint):
        def passed(row, start, onto):
            return tuple(n - (at == start) + (at == onto) for at, n in enumerate(row))

        for onto in range(len(tally)):
            if tally[onto] < other[onto]:
                if is_met(frame, passed(tally, joint, onto)) and is_met(frame, passed(other, onto, joint)):
                    return onto
        raise AssertionError("no joint may be swapped")

    def test_all_pairs_of_greatest_tallies(self):
        swapped = 0
        for frame in small_frames(56, 60):
            told = greatest_tallies(frame)[:12]
            for tally, other in itertools.product(told, repeat=2):
                for joint in range(len(tally)):
                    onto = swap_of(frame, tally, other, joint)
                    if tally[joint] <= other[joint]:
                        self.assertIsNone(onto)
                    else:
                        swapped += 1
                        self.assertEqual(onto, self.slow_swap(frame, tally, other, joint))
        self.assertGreater(swapped, 100)

    def test_the_least_one_that_may_be_swapped(self):
        # Joint 1 has fewer numbers in the one TALLY, too, but its bodies have no room for another number.
        frame = (3, 3, (("pin", 0, 1), ("pin", 1, 2), ("pin", 1, 2), ("bar", 0, 1), ("bar", 0, 1)))
        self.assertEqual(swap_of(frame, (2, 1, 2, 1, 0), (1, 2, 1, 1, 1), 0), 4)
        self.assertEqual(swap_of(frame, (2, 1, 2, 1, 0), (1, 2, 1, 1, 1), 2), 1)
        self.assertIsNone(swap_of(frame, (2, 1, 2, 1, 0), (1, 2, 1, 1, 1), 1))
        self.assertIsNone(swap_of(frame, (2, 1, 2, 1, 0), (1, 2, 1, 1, 1), 3))
        self.assertEqual(swap_of(PINS, (2, 1, 2, 1), (1, 2, 2, 1), 0), 1)

    def test_errors_in_their_order(self):
        good = (2, 1, 2, 1)
        with self.assertRaises(BadFrame):
            swap_of(None, None, None, None)
        for value, place in (*((value, -1) for value in STRANGE), ((3, 0, 0, 0), 0), ((0, 0, 0, True), 3)):
            for tally, other in ((value, None), (good, value), ((0, 0, 0, 0), value)):
                with self.assertRaises(BadTally) as caught:
                    swap_of(PINS, tally, other, None)
                self.assertEqual(caught.exception.place, place)
        for value in STRANGE + (-1, 4, (0,), 10 ** 999):
            with self.assertRaises(BadJoint) as caught:
                swap_of(PINS, (0, 0, 0, 0), good, value)
            self.assertIs(caught.exception.value, value)
        for tally, other in (((0, 0, 0, 0), good), (good, (0, 0, 0, 0)), ((2, 2, 2, 1), good), (good, (2, 1, 2, 0))):
            for joint in range(4):
                with self.assertRaises(NotGreatest):
                    swap_of(PINS, tally, other, joint)
