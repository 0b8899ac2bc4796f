"""[113], [114]: MIXES, SPREAD, CLASSES, FREE TABLES."""

import itertools
import math
import unittest

from bodybars.errors import BadMix, TooGreat
from bodybars.mixes import class_count, classes_of, free_table, mix_fault, need_mix, spread
from bodybars.oneform import one_form
from bodybars.symmetries import symmetries
from tests.helper import KINDS, SIZE, STRANGE, Spiteful, slow_pieces, slow_rank_of

MIX = (3, 3, (2, 1, 0))
MIXES = (
    (1, 1, (0, 0)), (3, 1, (0, 0, 0)), (6, 5, (0, 0, 0)), (1, 2, (3, 1)), (3, 2, (2, 2, 1)), (1, 3, (2, 1)), (1, 3, (4, 0)),
    MIX, (3, 3, (3, 1, 1)), (3, 3, (0, 4, 0)), (6, 3, (2, 1, 1)), (6, 3, (0, 3, 0)), (1, 4, (3, 0)), (1, 4, (1, 2)),
    (3, 4, (1, 1, 1)), (6, 4, (3, 1, 0)), (1, 5, (2, 0)), (3, 5, (0, 1, 1)), (6, 5, (0, 2, 0)),
)


def slow_frames(mix):
    dimension, many, counts = mix
    pairs = list(itertools.combinations(range(many), 2))
    rows = []
    for kind, number in zip(KINDS[dimension], counts):
        rows.append([
            tuple((kind, *pair) for pair in row) for row in itertools.combinations_with_replacement(pairs, number)
        ])
    return [(dimension, many, sum(row, ())) for row in itertools.product(*rows)]


class Mixes(unittest.TestCase):
    def check(self, value, fault):
        self.assertEqual(mix_fault(value), fault)
        if fault is None:
            self.assertEqual(need_mix(value), value)
            return
        for call in (need_mix, spread, class_count, classes_of, free_table):
            with self.assertRaises(BadMix) as caught:
                call(value)
            self.assertEqual(caught.exception.place, fault)

    def test_mixes(self):
        for value in (*MIXES, (3, 5, (40, 0, 0)), (6, 2, (10, 20, 10)), (1, 5, (0, 40))):
            self.check(value, None)

    def test_each_fault(self):
        for value in STRANGE + (0, (), MIX[:2], MIX + (1,), list(MIX)):
            self.check(value, ())
        for value in STRANGE + (0, 2, -1, 10 ** 999, (3,)):
            self.check((value, None, None), (0,))
        for value in STRANGE + (0, 6, -1, 10 ** 999, (3,)):
            self.check((3, value, None), (1,))
        for value in STRANGE + (0, (), (1, 1), (1, 1, 1, 1), [1, 1, 1]):
            self.check((3, 3, value), (2,))
        self.check((1, 3, (1, 1, 1)), (2,))
        self.check((6, 3, (1, 1)), (2,))
        for number in STRANGE + (-1, 41, 10 ** 999, (1,)):
            self.check((3, 3, (number, None, None)), (2, 0))
            self.check((3, 1, (1, 1, number)), (2, 2))
            self.check((3, 3, (40, 40, number)), (2, 2))
        self.check((3, 3, (20, 20, 1)), (2,))
        self.check((1, 5, (1, 40)), (2,))
        self.check((3, 1, (0, 1, 0)), (2,))
        self.check((6, 1, (0, 0, 40)), (2,))
        self.check((3, 3, (40, 40, Spiteful())), (2, 2))

    def test_spreads_and_classes(self):
        for mix in MIXES:
            frames = slow_frames(mix)
            self.assertEqual(spread(mix), len(frames))
            if len(frames) > 1000:
                continue
            forms = [one_form(frame)[0] for frame in frames]
            self.assertEqual(list(classes_of(mix)), sorted(set(forms)))
            self.assertEqual(class_count(mix), len(set(forms)))
            for form in set(forms):
                self.assertEqual(forms.count(form), math.factorial(mix[1]) // symmetries(form))

    def test_free_tables(self):
        for mix in MIXES:
            frames = slow_frames(mix)
            if len(frames) > 400:
                continue
            dimension, many, counts = mix
            top = dimension * (many - 1)
            free = [top - slow_rank_of(frame) for frame in frames]
            table = free_table(mix)
            self.assertEqual(list(table), [free.count(number) for number in range(top + 1)])
            self.assertEqual(sum(table), spread(mix))
            first = next(at for at, number in enumerate(table) if number)
            total = sum(SIZE[dimension][kind] * number for kind, number in zip(KINDS[dimension], counts))
            self.assertEqual(first, max(0, top - total))
            if dimension == 1:
                parts = [len(set(slow_pieces(many, [joint[1:] for joint in frame[2]]))) for frame in frames]
                self.assertEqual([number + 1 for number in free], parts)

    def test_class_counts_of_large_mixes(self):
        # Without enumeration: by how many stay the same for each order, told by hand for few joints.
        self.assertEqual(class_count((1, 5, (1, 0))), 1)
        self.assertEqual(class_count((1, 5, (2, 0))), 3)
        self.assertEqual(class_count((1, 5, (1, 1))), 3)
        self.assertEqual(class_count((1, 5, (3, 0))), 7)
        self.assertEqual(spread((1, 5, (40, 0))), math.comb(49, 40))
        self.assertEqual(spread((6, 2, (13, 13, 14))), 1)
        self.assertEqual(class_count((6, 2, (13, 13, 14))), 1)
        self.assertEqual(class_count((3, 3, (40, 0, 0))), sum(1 for a in range(41) for b in range(a, 41) if b <= 40 - a - b))
        self.assertEqual(class_count((3, 4, (4, 2, 0))), 137)

    def test_bounds(self):
        for mix, many in (((3, 3, (43 - 3, 0, 0)), 861), ((1, 4, (4, 2)), 2646), ((1, 5, (3, 1)), 2200), ((1, 5, (4, 0)), 715)):
            self.assertEqual(spread(mix), many)
            for call in (classes_of, free_table):
                if many <= 1000:
                    call(mix)
                    continue
                with self.assertRaises(TooGreat) as caught:
                    call(mix)
                self.assertEqual(caught.exception.most, 1000)
        # Just 1,000, and a little more.
        self.assertEqual(spread((3, 5, (1, 1, 1))), 1000)
        self.assertEqual(sum(free_table((3, 5, (1, 1, 1)))), 1000)
        self.assertEqual(len(classes_of((3, 5, (1, 1, 1)))), class_count((3, 5, (1, 1, 1))))
        self.assertEqual(spread((1, 4, (5, 1))), 1512)
        self.assertEqual(spread((3, 3, (11, 4, 0))), 1170)
        with self.assertRaises(TooGreat):
            classes_of((3, 3, (11, 4, 0)))

    def test_one_body(self):
        for dimension, kinds in KINDS.items():
            mix = (dimension, 1, (0,) * len(kinds))
            self.assertEqual((spread(mix), class_count(mix)), (1, 1))
            self.assertEqual(classes_of(mix), ((dimension, 1, ()),))
            self.assertEqual(free_table(mix), (1,))
