"""[63]: LOOSENING PAPERS and STAYING PAPERS."""

import unittest

from bodybars.errors import BadBudget, BadCosts, BadFrame, TooGreat
from bodybars.losses import fall
from bodybars.lossbounds import least_loss
from bodybars.losspapers import loosening_fault, loss_paper, staying_fault
from tests.helper import STRANGE, Spiteful, draw_frames, drawn, slow_bound, slow_fall, slow_is_packing, slow_without
from tests.test_losses import SMALL, all_losses

BUDGET = 10 ** 9
BARS = (1, 2, (("bar", 0, 1),) * 3)
PAIR = (1, 2, (("bar", 0, 1),) * 2)


def price(costs, loss):
    return sum(costs[joint] for joint in loss)


def slow_rows(frame, costs, budget, rows):
    """The LOSSES that come from () by joints that are used."""
    table = dict(rows)
    told, todo = {()}, [()]
    while todo:
        loss = todo.pop()
        for joint, numbers in enumerate(table[loss]):
            more = tuple(sorted({*loss, joint}))
            if numbers and price(costs, more) <= budget and more not in told:
                told.add(more)
                todo.append(more)
    return sorted(told)


class Papers(unittest.TestCase):
    def check(self, frame, costs, budget, loosens):
        word, paper = loss_paper(frame, costs, budget)
        self.assertEqual(word, "loosening" if loosens else "staying")
        if loosens:
            loss, packing, parting = paper
            self.assertEqual(loss, least_loss(frame, costs)[1])
            self.assertLessEqual(price(costs, loss), budget)
            self.assertTrue(slow_is_packing(frame, packing))
            self.assertLess(slow_bound(slow_without(frame, loss), parting, frame[0]), sum(map(len, packing)))
            self.assertEqual(loosening_fault(frame, costs, budget, paper), "")
            self.assertEqual(staying_fault(frame, costs, budget, paper), "form")
            return
        parting, rows = paper
        losses = [loss for loss, _ in rows]
        self.assertEqual(losses, slow_rows(frame, costs, budget, rows))
        for loss, packing in rows:
            self.assertLessEqual(price(costs, loss), budget)
            self.assertTrue(slow_is_packing(frame, packing))
            self.assertFalse(any(packing[joint] for joint in loss))
            self.assertEqual(sum(map(len, packing)), slow_bound(frame, parting, frame[0]))
        self.assertEqual(staying_fault(frame, costs, budget, paper), "")
        self.assertEqual(loosening_fault(frame, costs, budget, paper), "form")

    def test_examples(self):
        self.check(BARS, (1, 1, 1), 2, False)
        self.check(BARS, (1, 1, 1), 3, True)
        self.check((3, 2, ()), (), BUDGET, False)
        self.assertEqual(loss_paper((3, 2, ()), (), 5), ("staying", ((0, 1), (((), ()),))))
        self.assertEqual(loss_paper(PAIR, (1, 1), 2)[1][0], (0, 1))

    def test_against_all_losses(self):
        rng = drawn(301)
        words = []
        for frame in [*SMALL, *draw_frames(302, 60, 4, 7)]:
            table = {loss: slow_fall(frame, loss) for loss in all_losses(frame)}
            for far in (1, 3):
                costs = tuple(rng.randint(1, far) for _ in frame[2])
                for budget in (0, rng.randint(0, 2 * far), BUDGET):
                    loosens = any(number > 0 and price(costs, loss) <= budget for loss, number in table.items())
                    self.check(frame, costs, budget, loosens)
                    words.append(loosens)
        self.assertGreater(min(words.count(True), words.count(False)), 60)

    def test_a_budget_of_0_and_the_greatest(self):
        for frame in SMALL:
            costs = (1,) * len(frame[2])
            word, (parting, rows) = loss_paper(frame, costs, 0)
            self.assertEqual((word, len(rows), rows[0][0]), ("staying", 1, ()))
            self.check(frame, (10 ** 6,) * len(frame[2]), BUDGET, bool(frame[2]))

    def test_never_too_great_with_ten_joints(self):
        frame = (1, 2, (("bar", 0, 1),) * 10)
        self.check(frame, (1,) * 10, 9, False)
        self.check((3, 2, (("bar", 0, 1),) * 10), (1,) * 10, 7, False)
        self.check((6, 2, (("weld", 0, 1),) * 10), (1,) * 10, 9, False)

    def test_too_great(self):
        # Each LOSS that leaves six bars comes by any PACKINGS: three bars are used each time.
        frame, costs = (6, 2, (("bar", 0, 1),) * 40), (1,) * 40
        self.assertEqual(loss_paper(frame, costs, 0)[0], "staying")
        self.assertEqual(len(loss_paper(frame, costs, 1)[1][1]), 7)
        with self.assertRaises(TooGreat) as caught:
            loss_paper(frame, costs, 34)
        self.assertEqual(caught.exception.most, 2000)
        self.check(frame, costs, 35, True)
        with self.assertRaises(BadBudget):
            loss_paper(frame, costs, -1)

    def test_errors_in_their_order(self):
        calls = (
            loss_paper, lambda *args: loosening_fault(*args, None), lambda *args: staying_fault(*args, None),
        )
        for call in calls:
            with self.assertRaises(BadFrame):
                call((3, 2, [1]), None, None)
            for costs, place in ((None, -1), ((1, 1), -1), ((1, 0, None), 1), ((1, 1, True), 2)):
                with self.assertRaises(BadCosts) as caught:
                    call(BARS, costs, None)
                self.assertEqual(caught.exception.place, place)
            for budget in STRANGE + (-1, BUDGET + 1, 10 ** 999, (1,)):
                with self.assertRaises(BadBudget) as caught:
                    call(BARS, (1, 1, 1), budget)
                self.assertIs(caught.exception.value, budget)


class Loosening(unittest.TestCase):
    def check(self, paper, word, budget=3, costs=(1, 1, 1)):
        self.assertEqual(loosening_fault(BARS, costs, budget, paper), word)

    def test_each_word(self):
        good = ((0, 1, 2), ((0,), (), ()), (0, 1))
        self.check(good, "")
        self.check(((0, 1, 2), ((), (), (0,)), (0, 1)), "")
        for paper in STRANGE + (0, (), good[:2], good + (1,), list(good)):
            self.check(paper, "form")
        for value in STRANGE + (0, (1, 0), (3,), (0, 0), [0]):
            self.check((value, good[1], good[2]), "form")
        for value in STRANGE + (0, (), ((0,), (0,), ()), ((1,), (), ()), ((0,), ()), [(0,), (), ()]):
            self.check((good[0], value, good[2]), "form")
        for value in STRANGE + (0, (0,), (1, 0), (0, 2), (0, True), [0, 1]):
            self.check((good[0], good[1], value), "form")
        self.check(good, "cost", 2)
        self.check(good, "cost", 4, (3, 1, 1))
        self.check(good, "", 5, (3, 1, 1))
        self.check(((0, 1), ((0,), (), ()), (0, 1)), "count")
        self.check(((0, 1, 2), ((0,), (), ()), (0, 0)), "count")
        self.check(((0, 1, 2), ((), (), ()), (0, 1)), "count")
        self.check(((), ((0,), (), ()), (0, 1)), "count")

    def test_the_first_of_several(self):
        self.check(((0, 1, 2), ((), (), ()), (0, 0)), "cost", 2)
        self.check(((0, 1, 2), ((), (), ()), Spiteful()), "form", 0)


class Staying(unittest.TestCase):
    def check(self, paper, word, budget=1, costs=(1, 1)):
        self.assertEqual(staying_fault(PAIR, costs, budget, paper), word)

    def test_each_word(self):
        one, other, none = ((0,), ()), ((), (0,)), ((), ())
        rows = (((), one), ((0,), other))
        good = ((0, 0), rows)
        self.check(good, "")
        self.check(((0, 1), (((), one),)), "count")
        self.check(((0, 0), (((), other), ((1,), one))), "")
        self.check(((0, 0), (((), one), ((0,), other), ((1,), one))), "")
        for paper in STRANGE + (0, (), ((0, 0),), good + (1,), list(good)):
            self.check(paper, "form")
        for value in STRANGE + (0, (0,), (1, 0), (0, 2), [0, 0]):
            self.check((value, rows), "form")
        for value in STRANGE + (0, (None,), list(rows), ((), one), (((), one, 1),), (((), one), ((0,), [(), (0,)]))):
            self.check(((0, 0), value), "form")
        for loss in STRANGE + (0, (2,), (1, 0), (True,)):
            self.check(((0, 0), (((), one), (loss, other))), "form")
        for packing in STRANGE + (0, (), ((0,), (0,)), ((1,), ()), ((0,),)):
            self.check(((0, 0), (((), one), ((0,), packing))), "form")
        self.check(((0, 0), ()), "order")
        self.check(((0, 0), (((0,), other),)), "order")
        self.check(((0, 0), (((), one), ((1,), one), ((0,), other))), "order")
        self.check(((0, 0), (((), one), ((), one))), "order")
        self.check(((0, 0), (((), one), ((0,), other), ((0,), other))), "order")
        self.check(good, "cost", 0)
        self.check(good, "cost", 1, (2, 1))
        self.check(((0, 0), (((), one), ((0,), one))), "count")
        self.check(((0, 0), (((), none), ((0,), other))), "count")
        self.check(((0, 0), (((), one), ((0,), none))), "count")
        self.check(((0, 0), (((), one),)), "lack")
        self.check(((0, 0), (((), one),)), "", 0)
        self.check(((0, 0), (((), one),)), "", 1, (2, 1))
        self.check(good, "lack", 2)

    def test_the_first_of_several(self):
        one, other, none = ((0,), ()), ((), (0,)), ((), ())
        self.check(((0, 0), (((0,), one),)), "order", 0)
        self.check(((0, 0), (((), none), ((0,), none))), "cost", 0)
        self.check(((0, 0), (((), one), ((1,), other))), "count")
        self.check(((0, 0), (((), one), ((0, 1), none))), "count", 2)

    def test_no_paper_for_what_loosens(self):
        rng = drawn(303)
        for frame in draw_frames(304, 30, 3, 5):
            costs = (1,) * len(frame[2])
            for loss in all_losses(frame):
                word, paper = loss_paper(frame, costs, len(loss))
                if fall(frame, loss) > 0:
                    self.assertEqual(word, "loosening")
                else:
                    other = (loss, paper[1], paper[0]) if word == "staying" else (loss, *paper[1:])
                    self.assertNotEqual(loosening_fault(frame, costs, rng.randint(0, 9), other), "")
