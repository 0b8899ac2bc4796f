"""[110], [111]: SUPPLIES and their told ARRANGEMENTS."""

import itertools
import unittest

from bodybars.arranging import arranged, fewest, supply_rank
from bodybars.errors import BadDimension, BadNumber, BadSupply
from bodybars.supplies import need_supply, supply_fault
from bodybars.woods import free_of, rank_of
from tests.helper import KINDS, SIZE, STRANGE, Spiteful, drawn, slow_is_packing, slow_rank_of

SUPPLY = (3, 4, ("pin", "bar", "weld", "pin", "pin"))


def draw_supply(rng, many_kinds):
    dimension, many = rng.choice((1, 3, 6)), rng.randint(1, 8)
    kinds = rng.choices(KINDS[dimension], k=rng.randint(0, many_kinds) if many > 1 else 0)
    return (dimension, many, tuple(kinds))


class Supplies(unittest.TestCase):
    def check(self, value, fault):
        self.assertEqual(supply_fault(value), fault)
        if fault is None:
            self.assertEqual(need_supply(value), value)
            return
        for call in (need_supply, arranged, supply_rank):
            with self.assertRaises(BadSupply) as caught:
                call(value)
            self.assertEqual(caught.exception.place, fault)

    def test_supplies(self):
        for value in (SUPPLY, (1, 1, ()), (6, 8, ("hinge",) * 40), (6, 2, ()), (1, 2, ("bar", "weld"))):
            self.check(value, None)

    def test_each_fault(self):
        for value in STRANGE + (0, (), (3, 4), SUPPLY + (1,), list(SUPPLY)):
            self.check(value, ())
        for value in STRANGE + (0, 2, -1, 10 ** 999, (3,)):
            self.check((value, None, None), (0,))
        for value in STRANGE + (0, 9, -1, 10 ** 999, (3,)):
            self.check((3, value, None), (1,))
        for value in STRANGE + (0, ["bar"], ("bar",) * 41, (None,) * 41):
            self.check((3, 4, value), (2,))
        self.check((3, 1, ("bar",)), (2,))
        self.check((3, 1, (None,)), (2,))
        for value in STRANGE + (0, "hinge", "Bar", "bar ", ("bar",)):
            if type(value) is not str or value != "bar":
                self.check((3, 4, (value, None)), (2, 0))
                self.check((3, 4, ("weld", "pin", value, Spiteful())), (2, 2))
        self.check((6, 4, ("pin",)), (2, 0))
        self.check((1, 4, ("bar", "pin")), (2, 1))


class Arrangements(unittest.TestCase):
    def check(self, supply):
        """The told one, spot by spot."""
        dimension, many, kinds = supply
        frame, packing = arranged(supply)
        self.assertEqual(frame[:2], (dimension, many))
        self.assertEqual(tuple(joint[0] for joint in frame[2]), kinds)
        spots = list(itertools.product(range(many - 1), range(dimension)))
        for joint, numbers in zip(frame[2], packing):
            size = SIZE[dimension][joint[0]]
            taken, spots = spots[:size], spots[size:]
            levels = sorted({level for level, _ in taken})
            if not levels:
                self.assertEqual((joint[1:], numbers), ((0, 1), ()))
            elif len(levels) == 1:
                self.assertEqual(joint[1:], (0, levels[0] + 1))
            else:
                self.assertEqual(levels, [levels[0], levels[0] + 1])
                self.assertEqual(joint[1:], (levels[0] + 1, levels[0] + 2))
            self.assertEqual(numbers, tuple(sorted(number for _, number in taken)))
        top = min(sum(SIZE[dimension][kind] for kind in kinds), dimension * (many - 1))
        self.assertTrue(slow_is_packing(frame, packing))
        self.assertEqual(sum(map(len, packing)), top)
        self.assertEqual(supply_rank(supply), top)
        self.assertEqual(rank_of(frame), top)
        return frame, packing

    def test_examples(self):
        self.assertEqual(self.check(SUPPLY), (
            (3, 4, (("pin", 0, 1), ("bar", 0, 1), ("weld", 0, 2), ("pin", 0, 3), ("pin", 0, 3))),
            ((0, 1), (2,), (0, 1, 2), (0, 1), (2,)),
        ))
        self.assertEqual(self.check((6, 4, ("hinge", "hinge", "bar", "weld", "hinge", "bar"))), (
            (6, 4, (("hinge", 0, 1), ("hinge", 1, 2), ("bar", 0, 2), ("weld", 2, 3), ("hinge", 0, 3), ("bar", 0, 1))),
            ((0, 1, 2, 3, 4), (0, 1, 2, 3, 5), (4,), (0, 1, 2, 3, 4, 5), (5,), ()),
        ))
        self.assertEqual(self.check((3, 1, ())), ((3, 1, ()), ()))
        self.assertEqual(self.check((1, 3, ("bar",) * 3))[1], ((0,), (0,), ()))

    def test_drawn_ones(self):
        rng = drawn(640)
        seen = set()
        for _ in range(150):
            supply = draw_supply(rng, rng.choice((4, 20, 40)))
            frame, packing = self.check(supply)
            seen.add((supply[0], () in packing, any(a > 0 for _, a, _ in frame[2])))
        self.assertEqual(len(seen), 3 * 4 - 2)

    def test_no_arrangement_has_a_greater_rank(self):
        for supply in ((3, 3, ("pin", "pin", "bar")), (6, 3, ("hinge", "hinge", "bar")), (1, 3, ("bar", "weld"))):
            dimension, many, kinds = supply
            pairs = list(itertools.combinations(range(many), 2))
            ranks = [
                slow_rank_of((dimension, many, tuple((kind, *pair) for kind, pair in zip(kinds, row))))
                for row in itertools.product(pairs, repeat=len(kinds))
            ]
            self.assertEqual(max(ranks), supply_rank(supply))


class Fewest(unittest.TestCase):
    def test_how_many(self):
        self.assertEqual(fewest(6, 6, "hinge"), 6)
        self.assertEqual(fewest(6, 7, "hinge"), 8)
        self.assertEqual(fewest(3, 4, "pin"), 5)
        self.assertEqual(fewest(6, 8, "bar"), 42)
        self.assertEqual(fewest(6, 8, "weld"), 7)
        for dimension, kinds in KINDS.items():
            for kind, many in itertools.product(kinds, range(1, 9)):
                told = fewest(dimension, many, kind)
                self.assertEqual(told, -(-dimension * (many - 1) // SIZE[dimension][kind]))
                if told <= 40:
                    self.assertEqual(free_of(arranged((dimension, many, (kind,) * told))[0]), 0)
                if 0 < told <= 41 and many > 1:
                    self.assertGreater(free_of(arranged((dimension, many, (kind,) * (told - 1)))[0]), 0)

    def test_errors_in_their_order(self):
        for value in STRANGE + (0, 2, -1, 10 ** 999, (3,)):
            with self.assertRaises(BadDimension):
                fewest(value, None, None)
        for value in STRANGE + (0, 9, -1, 10 ** 999, (3,)):
            with self.assertRaises(BadNumber) as caught:
                fewest(3, value, None)
            self.assertIs(caught.exception.value, value)
        for value in STRANGE + (0, "hinge", "Bar", ("bar",)):
            if type(value) is not str or value != "bar":
                with self.assertRaises(BadSupply) as caught:
                    fewest(3, 1, value)
                self.assertEqual(caught.exception.place, (2, 0))
        with self.assertRaises(BadSupply):
            fewest(1, 4, "pin")
