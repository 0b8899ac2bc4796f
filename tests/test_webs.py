"""[115], [116]: WEBS and their TREE COUNTS."""

import itertools
import math
import unittest

from bodybars.deals import deals
from bodybars.errors import BadNumber, BadWeb
from bodybars.webs import is_web, tree_count, web_count, web_fault, webs
from tests.helper import STRANGE, Spiteful, drawn, is_wood

CAYLEY = {1: 1, 2: 1, 3: 3, 4: 16}


def all_pairs(many):
    return list(itertools.combinations(range(many), 2))


def slow_trees(many):
    pairs = all_pairs(many)
    return [
        tuple(int(pair in row) for pair in pairs) for row in itertools.combinations(pairs, many - 1) if is_wood(many, row)
    ]


def slow_counts(trees, many):
    """For each WEB its TREE COUNT, by all tuples of trees."""
    told = {(0,) * len(all_pairs(many)): 1}
    for _ in range(trees):
        further = {}
        for row, number in told.items():
            for tree in slow_trees(many):
                both = tuple(a + b for a, b in zip(row, tree))
                further[both] = further.get(both, 0) + number
        told = further
    return told


def by_lots(trees, many, row):
    """(a) of [115]."""
    pairs = all_pairs(many)
    if sum(row) != trees * (many - 1):
        return False
    for size in range(2, many + 1):
        for lot in itertools.combinations(range(many), size):
            if sum(n for n, (a, b) in zip(row, pairs) if a in lot and b in lot) > trees * (size - 1):
                return False
    return True


class Webs(unittest.TestCase):
    def test_all_of_them(self):
        for many in (1, 2, 3, 4):
            for trees in range(1, 7):
                counts = slow_counts(trees, many) if many < 4 or trees < 4 else None
                if counts is not None:
                    self.assertEqual(list(webs(trees, many)), sorted(counts))
                    self.assertEqual(web_count(trees, many), len(counts))
                    self.assertEqual(sum(tree_count(trees, many, web) for web in counts), CAYLEY[many] ** trees)
                    for web in sorted(counts)[::7]:
                        self.assertEqual(tree_count(trees, many, web), counts[web])
                        self.assertIs(is_web(trees, many, web), True)

    def test_counts_by_the_told_numbers(self):
        for trees in range(1, 7):
            n = trees + 1
            self.assertEqual(web_count(trees, 1), 1)
            self.assertEqual(web_count(trees, 2), 1)
            self.assertEqual(web_count(trees, 3), n * (n + 1) // 2)
            self.assertEqual(web_count(trees, 4) * 60, 21 * n ** 5 + 35 * n ** 3 + 4 * n)
        for trees in (5, 6):
            rows = itertools.product(range(trees + 1), repeat=5)
            found = sum(by_lots(trees, 4, (*row, 3 * trees - sum(row))) for row in rows if 0 <= 3 * trees - sum(row) <= trees)
            self.assertEqual(web_count(trees, 4), found)

    def test_by_lots(self):
        for trees, many in ((1, 3), (2, 3), (6, 3), (1, 4), (2, 4)):
            told = webs(trees, many)
            for row in itertools.product(range(trees + 1), repeat=len(all_pairs(many))):
                good = by_lots(trees, many, row)
                self.assertEqual(row in told, good)
                self.assertIs(is_web(trees, many, row), good)
                self.assertEqual(web_fault(trees, many, row), None if good else len(row))
        rng = drawn(660)
        words = []
        for trees in (3, 4, 5, 6):
            for _ in range(400):
                row = tuple(rng.randint(0, trees) for _ in range(5))
                row += (max(0, min(trees, 3 * trees - sum(row))),)
                words.append(is_web(trees, 4, row))
                self.assertIs(words[-1], by_lots(trees, 4, row))
        self.assertGreater(min(words.count(True), words.count(False)), 100)

    def test_tree_counts(self):
        for trees in range(1, 7):
            self.assertEqual(tree_count(trees, 1, ()), 1)
            self.assertEqual(tree_count(trees, 2, (trees,)), 1)
            for web in webs(trees, 3):
                less = math.prod(math.factorial(trees - number) for number in web)
                self.assertEqual(tree_count(trees, 3, web), math.factorial(trees) // less)
        self.assertEqual(tree_count(6, 4, (6, 6, 6, 0, 0, 0)), 1)
        self.assertEqual(tree_count(2, 4, (1, 1, 1, 1, 1, 1)), 12)
        self.assertEqual(tree_count(1, 4, (1, 0, 0, 1, 0, 1)), 1)
        # By one tree less each time.
        web = (3, 3, 3, 3, 3, 3)
        due = sum(tree_count(5, 4, tuple(a - b for a, b in zip(web, tree))) for tree in slow_trees(4))
        self.assertEqual(tree_count(6, 4, web), due)

    def test_frames_of_bars(self):
        for trees, many in ((1, 2), (1, 3), (1, 4), (3, 2), (3, 3), (3, 4), (6, 2)):
            for web in webs(trees, many)[:60:9]:
                joints = tuple(("bar", *pair) for pair, number in zip(all_pairs(many), web) for _ in range(number))
                due = tree_count(trees, many, web) * math.prod(math.factorial(number) for number in web)
                self.assertEqual(len(deals((trees, many, joints))), due)

    def test_faults(self):
        for value in STRANGE + (0, (), (1, 1), (1, 1, 1, 1), [1, 1, 0]):
            self.assertEqual(web_fault(1, 3, value), -1)
            self.assertIs(is_web(1, 3, value), False)
        for number in STRANGE + (-1, 3, 10 ** 999, (1,)):
            self.assertEqual(web_fault(2, 3, (number, None, None)), 0)
            self.assertEqual(web_fault(2, 3, (2, 2, number)), 2)
            self.assertEqual(web_fault(2, 3, (9, Spiteful(), number)), 0)
        for value in ((1, 1, 1), (0, 0, 1), (0, 0, 0)):
            self.assertEqual(web_fault(1, 3, value), 3)
            with self.assertRaises(BadWeb) as caught:
                tree_count(1, 3, value)
            self.assertEqual(caught.exception.place, 3)
        # Two lines that run round between three bodies, though each pair has its room.
        self.assertEqual(web_fault(1, 4, (1, 1, 0, 1, 0, 0)), 6)
        self.assertEqual(web_fault(2, 4, (2, 2, 0, 1, 0, 1)), 6)
        self.assertIsNone(web_fault(2, 4, (2, 1, 0, 1, 1, 1)))
        self.assertEqual(web_fault(3, 2, (2,)), 1)
        self.assertIsNone(web_fault(3, 1, ()))
        self.assertEqual(web_fault(3, 1, (0,)), -1)
        for value, place in ((None, -1), ((1, 1), -1), ((1, None, 1), 1), ((0, 2, 0), 1)):
            with self.assertRaises(BadWeb) as caught:
                tree_count(1, 3, value)
            self.assertEqual(caught.exception.place, place)

    def test_errors_in_their_order(self):
        calls = (
            lambda *args: web_fault(*args, Spiteful()), lambda *args: is_web(*args, Spiteful()), web_count, webs,
            lambda *args: tree_count(*args, None),
        )
        for call in calls:
            for value in STRANGE + (0, 7, -1, 10 ** 999, (1,)):
                with self.assertRaises(BadNumber) as caught:
                    call(value, None)
                self.assertIs(caught.exception.value, value)
            for value in STRANGE + (0, 5, -1, 10 ** 999, (1,)):
                with self.assertRaises(BadNumber) as caught:
                    call(6, value)
                self.assertIs(caught.exception.value, value)
        for trees in (5, 6):
            with self.assertRaises(BadNumber) as caught:
                webs(trees, 4)
            self.assertEqual(caught.exception.value, trees)
            self.assertEqual(len(webs(trees, 3)), web_count(trees, 3))
        self.assertEqual(len(webs(4, 4)), web_count(4, 4))
