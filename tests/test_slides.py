"""[75], [76]: SLIDES, WORTH, STRETCHES, TAKE ROWS."""

import unittest

from bodybars.cheapest import greedy_tally
from bodybars.errors import BadCosts, BadFrame, BadJoint, BadNumber, BadSlide, TooGreat
from bodybars.slides import need_slide, slide_fault, stretches, take_row, worth_at
from bodybars.losses import fall
from tests.helper import (
    SIZE, STRANGE, Spiteful, draw_frames, drawn, slow_greatest_tallies, tally_frames, times,
)
from tests.test_cheapest import slow_greedy

DEAR = 10 ** 6
BARS = (3, 2, (("bar", 0, 1),) * 5)
SLIDE = ((5, 4, 3, 2, 1), (0, -1, 7, -1000, 1000), 9)
LONE = (3, 1, ())


def costs_at(slide, time):
    return tuple(cost + time * rate for cost, rate in zip(slide[0], slide[1]))


def slid_frames(seed, tries, most, last):
    rng = drawn(seed)
    for frame in tally_frames(seed + 1, tries, most):
        many = len(frame[2])
        far, steep = rng.choice(((3, 1), (9, 3), (60, 9), (60, 9), (DEAR, 1000)))
        costs = tuple(rng.randint(1, far) for _ in range(many))
        yield frame, (costs, tuple(rng.randint(-steep, steep) for _ in range(many)), rng.randint(0, last))


class Slides(unittest.TestCase):
    def check(self, value, word, frame=BARS):
        self.assertEqual(slide_fault(frame, value), word)
        if word == "":
            self.assertEqual(need_slide(frame, value), value)
            return
        for call in (need_slide, stretches, lambda *args: worth_at(*args, Spiteful())):
            with self.assertRaises(BadSlide) as caught:
                call(frame, value)
            self.assertEqual(caught.exception.word, word)

    def test_slides(self):
        for last in (0, 1, 999, 1000):
            self.check((*SLIDE[:2], last), "")
        self.check(((1, DEAR, 1, 1, 1), (-1000, 1000, 0, 0, 0), 3), "")
        self.check(((), (), 0), "", LONE)

    def test_each_word(self):
        costs, rates, last = SLIDE
        for value in STRANGE + (0, (), SLIDE[:2], SLIDE + (1,), list(SLIDE)):
            self.check(value, "form")
        for value in STRANGE + (0, (), costs[:4], [*costs], (0, 4, 3, 2, 1), (5, 4, 3, 2, DEAR + 1), (5, 4, 3, 2, True)):
            self.check((value, rates, last), "costs")
        for value in STRANGE + (
            0, (), rates[:4], rates + (0,), [*rates], (0, 0, 0, 0, 1001), (-1001, 0, 0, 0, 0), (0, 0, False, 0, 0),
            (0, 0, 0, None, 0),
        ):
            self.check((costs, value, last), "rates")
        for value in STRANGE + (-1, 1001, 10 ** 999, (0,)):
            self.check((costs, rates, value), "last")

    def test_the_first_of_several(self):
        self.check(((5, 4, 3, 2, 0), (1001,) * 5, -1), "costs")
        self.check((SLIDE[0], (1001,) * 5, -1), "rates")
        self.check(((), (0,), 0), "rates", LONE)

    def test_the_frame_comes_first(self):
        for call in (
            lambda frame: slide_fault(frame, Spiteful()), lambda frame: need_slide(frame, None),
            lambda frame: worth_at(frame, None, None), lambda frame: stretches(frame, None),
            lambda frame: take_row(frame, None, None),
        ):
            with self.assertRaises(BadFrame):
                call((3, 2, [1]))

    def test_times(self):
        for time in STRANGE + (-1, 10, 10 ** 999, (0,)):
            with self.assertRaises(BadNumber) as caught:
                worth_at(BARS, SLIDE, time)
            self.assertIs(caught.exception.value, time)
        with self.assertRaises(BadNumber):
            worth_at(BARS, (*SLIDE[:2], 0), 1)

    def test_too_many_joints(self):
        frame = (3, 2, (("bar", 0, 1),) * 13)
        slide = ((1,) * 13, (0,) * 13, 1000)
        self.assertEqual(worth_at(frame, slide, 1000), 3)
        with self.assertRaises(TooGreat) as caught:
            stretches(frame, slide)
        self.assertEqual(caught.exception.most, 12)
        with self.assertRaises(BadSlide):
            stretches(frame, ((1,) * 12, (0,) * 13, 1000))
        twelve = (3, 2, (("bar", 0, 1),) * 12)
        self.assertEqual(stretches(twelve, ((1,) * 12, (0,) * 12, 1000)), ((0, 1000, (1, 1, 1) + (0,) * 9),))


class Times(unittest.TestCase):
    def test_worth(self):
        for frame, slide in slid_frames(450, 40, 100, 12):
            greatest = slow_greatest_tallies(frame)
            worths = []
            for time in range(slide[2] + 1):
                costs = costs_at(slide, time)
                worths.append(min(times(costs, tally) for tally in greatest))
                self.assertEqual(worth_at(frame, slide, time), worths[-1])
            for low, middle, high in zip(worths, worths[1:], worths[2:]):
                self.assertLessEqual(low + high, 2 * middle)

    def test_stretches(self):
        many = []
        for frame, slide in slid_frames(455, 90, 100, 60):
            told = stretches(frame, slide)
            greatest = slow_greatest_tallies(frame)
            due = 0
            for start, end, tally in told:
                self.assertEqual(start, due)
                self.assertLessEqual(start, end)
                self.assertEqual(tally, slow_greedy(frame, list(zip(costs_at(slide, start), slide[1]))))
                for time in range(start, min(end + 1, slide[2]) + 1):
                    costs = costs_at(slide, time)
                    least = min(times(costs, other) for other in greatest)
                    self.assertEqual(times(costs, tally) == least, time <= end)
                due = end + 1
            self.assertEqual(due, slide[2] + 1)
            many.append(len(told))
        self.assertGreaterEqual(len(set(many)), 4)

    def test_equal_costs_and_rates(self):
        two = (1, 2, (("bar", 0, 1), ("bar", 0, 1)))
        self.assertEqual(stretches(two, ((5, 5), (1, 0), 9)), ((0, 9, (0, 1)),))
        self.assertEqual(stretches(two, ((5, 5), (0, 1), 9)), ((0, 9, (1, 0)),))
        self.assertEqual(stretches(two, ((5, 5), (1, 1), 9)), ((0, 9, (1, 0)),))
        self.assertEqual(stretches(two, ((5, 8), (0, -1), 9)), ((0, 3, (1, 0)), (4, 9, (0, 1))))
        self.assertEqual(stretches(two, ((5, 8), (1, -1), 9)), ((0, 1, (1, 0)), (2, 9, (0, 1))))
        self.assertEqual(stretches(two, ((5, 8), (0, -1), 0)), ((0, 0, (1, 0)),))
        self.assertEqual(stretches(two, ((1, DEAR), (1000, -1000), 1000)), ((0, 499, (1, 0)), (500, 1000, (0, 1))))
        self.assertEqual(worth_at(two, ((1, DEAR), (1000, -1000), 1000), 1000), 0)
        self.assertEqual(worth_at(two, ((1, 1), (-1000, 1), 1000), 1000), 1 - 10 ** 6)
        self.assertEqual(stretches(LONE, ((), (), 1000)), ((0, 1000, ()),))
        self.assertEqual(worth_at(LONE, ((), (), 1000), 1000), 0)

    def test_a_thousand_times_of_twelve_joints(self):
        rng = drawn(460)
        for frame in draw_frames(461, 8, 8, 12):
            many = len(frame[2])
            slide = (tuple(rng.randint(1, 2000) for _ in range(many)), tuple(rng.randint(-9, 9) for _ in range(many)), 1000)
            told = stretches(frame, slide)
            self.assertEqual([row[0] for row in told], [0] + [row[1] + 1 for row in told[:-1]])
            self.assertEqual(told[-1][1], 1000)
            for start, end, tally in told:
                for time in (start, (start + end) // 2, end):
                    self.assertEqual(times(costs_at(slide, time), tally), worth_at(frame, slide, time))
                if end < 1000:
                    self.assertGreater(times(costs_at(slide, end + 1), tally), worth_at(frame, slide, end + 1))


class Takes(unittest.TestCase):
    def check(self, frame, costs, joint, most):
        """Against the greedy TALLY for each C up to most, behind which nothing changes."""
        row = take_row(frame, costs, joint)
        due = []
        for cost in [*range(1, most + 1), DEAR]:
            number = greedy_tally(frame, costs[:joint] + (cost,) + costs[joint + 1:])[joint]
            if not due or due[-1][1] != number:
                due.append((cost, number))
        self.assertEqual(row, tuple(due))
        return row

    def test_against_each_cost(self):
        rng = drawn(465)
        rows = set()
        for frame in draw_frames(466, 30, 5, 8):
            costs = tuple(rng.randint(1, 6) for _ in frame[2])
            for joint in range(len(costs)):
                row = self.check(frame, costs, joint, 8)
                numbers = [number for _, number in row]
                self.assertEqual(numbers, sorted(numbers, reverse=True))
                self.assertLessEqual(numbers[0], SIZE[frame[0]][frame[2][joint][0]])
                self.assertEqual(numbers[-1], fall(frame, (joint,)))
                rows.add(len(row))
        self.assertGreaterEqual(len(rows), 3)

    def test_examples(self):
        self.assertEqual(take_row(BARS, (1, 5, 2, 4, 3), 1), ((1, 1), (4, 0)))
        self.assertEqual(take_row(BARS, (1, 5, 2, 4, 3), 4), ((1, 1), (4, 0)))
        self.assertEqual(take_row(BARS, (1, 5, 2, 4, 3), 0), ((1, 1), (5, 0)))
        self.assertEqual(take_row((3, 2, (("weld", 0, 1), ("bar", 0, 1), ("bar", 0, 1))), (1, 1, 7), 0), ((1, 3), (2, 2), (8, 1)))
        self.assertEqual(take_row((3, 2, (("bar", 0, 1), ("bar", 0, 1), ("weld", 0, 1))), (1, 7, 1), 2), ((1, 2), (7, 1)))
        self.assertEqual(take_row((1, 2, (("bar", 0, 1),)), (5,), 0), ((1, 1),))

    def test_at_the_ends_of_the_costs(self):
        two = (1, 2, (("bar", 0, 1), ("bar", 0, 1)))
        self.assertEqual(take_row(two, (1, 1), 0), ((1, 1), (2, 0)))
        self.assertEqual(take_row(two, (1, 1), 1), ((1, 0),))
        self.assertEqual(take_row(two, (2, 1), 1), ((1, 1), (2, 0)))
        self.assertEqual(take_row(two, (DEAR, DEAR), 0), ((1, 1),))
        self.assertEqual(take_row(two, (DEAR, DEAR), 1), ((1, 1), (DEAR, 0)))
        self.assertEqual(take_row(two, (DEAR - 1, DEAR - 1), 0), ((1, 1), (DEAR, 0)))
        self.assertEqual(take_row(two, (1, DEAR), 0), ((1, 1),))

    def test_errors_in_their_order(self):
        with self.assertRaises(BadCosts):
            take_row(BARS, (1, 1, 1, 1, 0), None)
        for joint in STRANGE + (-1, 5, 10 ** 999, (0,)):
            with self.assertRaises(BadJoint) as caught:
                take_row(BARS, (1,) * 5, joint)
            self.assertIs(caught.exception.value, joint)
        with self.assertRaises(BadJoint):
            take_row(LONE, (), 0)
