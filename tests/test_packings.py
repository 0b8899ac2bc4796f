"""[11], [34]: pieces of bodies, PACKINGS and their faults."""

import itertools
import unittest

from bodybars.errors import BadFrame, BadNumber, BadPacking, BadPairs
from bodybars.packings import count_of, is_packing, need_packing, packing_fault
from bodybars.pieces import pieces
from tests.helper import (
    FRAMES, SIZE, STRANGE, Spiteful, draw_frames, draw_packing, drawn, slow_is_packing, slow_packings, slow_pieces,
)


class Pieces(unittest.TestCase):
    def test_by_rows_of_pairs(self):
        self.assertEqual(pieces(5, ((3, 4), (0, 2), (2, 4))), (0, 1, 0, 0, 0))
        self.assertEqual(pieces(4, ()), (0, 1, 2, 3))
        self.assertEqual(pieces(1, ()), (0,))
        self.assertEqual(pieces(8, tuple((body, body + 1) for body in range(7))), (0,) * 8)
        self.assertEqual(pieces(3, ((1, 2),) * 5), (0, 1, 1))

    def test_in_any_order(self):
        rng = drawn(5)
        for _ in range(200):
            many = rng.randint(2, 8)
            pairs = [tuple(sorted(rng.sample(range(many), 2))) for _ in range(rng.randint(0, many))]
            told = pieces(many, tuple(pairs))
            self.assertEqual(told, slow_pieces(many, pairs))
            rng.shuffle(pairs)
            self.assertEqual(told, pieces(many, tuple(pairs)))

    def test_no_pairs(self):
        wrong = STRANGE + (
            0, (0, 1), ((0, 1), (0, 0)), ((1, 0),), ((0, 3),), ((-1, 0),), ((0, 1, 2),), ((0,),), ([0, 1],),
            ((0, True),), ((False, 1),), (("0", "1"),), ((0, 1), Spiteful()), ((0, 1), None), [(0, 1)],
        )
        for value in wrong:
            with self.assertRaises(BadPairs) as caught:
                pieces(3, value)
            self.assertIs(caught.exception.value, value)

    def test_many_comes_first(self):
        for many in STRANGE + (0, 9):
            with self.assertRaises(BadNumber) as caught:
                pieces(many, None)
            self.assertIs(caught.exception.value, many)


class Packings(unittest.TestCase):
    def check(self, frame, value, *place):
        self.assertEqual(packing_fault(frame, value), place)
        self.assertIs(is_packing(frame, value), False)
        with self.assertRaises(BadPacking) as caught:
            need_packing(frame, value)
        self.assertEqual(caught.exception.place, place)

    def check_good(self, frame, value):
        self.assertIsNone(packing_fault(frame, value))
        self.assertIs(is_packing(frame, value), True)
        self.assertEqual(need_packing(frame, value), value)

    def test_packings_have_no_fault(self):
        rng = drawn(6)
        for frame in FRAMES + tuple(draw_frames(7, 60, 8, 12)):
            packing = draw_packing(rng, frame)
            self.check_good(frame, packing)
            self.assertEqual(count_of(packing), sum(map(len, packing)))
            self.check_good(frame, ((),) * len(frame[2]))
        self.assertEqual(count_of(()), 0)
        self.assertEqual(count_of(((0, 1), (), (2,))), 3)

    def test_all_small_values(self):
        for frame in (
            (1, 3, (("bar", 0, 1), ("weld", 0, 2), ("bar", 1, 2), ("bar", 0, 1))),
            (3, 2, (("pin", 0, 1), ("bar", 0, 1))),
            (3, 3, (("bar", 0, 1), ("weld", 1, 2), ("bar", 0, 2))),
        ):
            good = set(slow_packings(frame))
            rows = [(), *itertools.product(range(-1, frame[0] + 1)), *itertools.product(range(frame[0]), repeat=2)]
            for value in itertools.product(rows, repeat=len(frame[2])):
                self.assertEqual(is_packing(frame, value), value in good, value)

    def test_no_tuple_with_a_thing_for_each_joint(self):
        frame = FRAMES[5]
        for value in STRANGE + (0, (), ((), ()), ((), (), (), ()), [(), (), ()]):
            self.check(frame, value)
        self.check((3, 1, ()), ((),))

    def test_thing_that_is_no_tuple_or_too_long(self):
        frame = (3, 3, (("bar", 0, 1), ("pin", 0, 1), ("weld", 1, 2)))
        for value in STRANGE + (0, [0]):
            self.check(frame, (value, None, None), 0)
            self.check(frame, ((0,), value, None), 1)
        self.check(frame, ((0, 1), (), ()), 0)
        self.check(frame, ((0,), (0, 1, 2), ()), 1)
        self.check(frame, ((), (None, None, None), ()), 1)
        self.check(frame, ((), (), (0, 1, 2, 2)), 2)
        self.check((6, 2, (("hinge", 0, 1),)), ((0, 1, 2, 3, 4, 5),), 0)
        self.check((1, 2, (("weld", 0, 1),)), ((0, 0),), 0)

    def test_numbers(self):
        frame = (3, 3, (("bar", 0, 1), ("weld", 1, 2)))
        for value in STRANGE + (-1, 3, 10 ** 999, (0,)):
            self.check(frame, ((value,), None), 0, 0)
            self.check(frame, ((), (0, value)), 1, 1)
            self.check(frame, ((), (0, 1, value)), 1, 2)
        self.check(frame, ((0,), (0, 0)), 1, 1)
        self.check(frame, ((0,), (1, 0, 2)), 1, 1)
        self.check(frame, ((0,), (0, 2, 1)), 1, 2)
        self.check((1, 2, (("weld", 0, 1),)), ((1,),), 0, 0)

    def test_numbers_that_close_a_round(self):
        self.check((3, 2, (("pin", 0, 1), ("pin", 0, 1))), ((0, 1), (1, 2)), 1, 0)
        self.check((3, 2, (("pin", 0, 1), ("pin", 0, 1))), ((1, 2), (0, 2)), 1, 1)
        self.check_good((3, 2, (("pin", 0, 1), ("bar", 0, 1))), ((0, 2), (1,)))
        ring = (6, 6, tuple(("hinge", body, body + 1) for body in range(5)) + (("hinge", 0, 5),))
        self.check(ring, ((0, 1),) * 5 + ((1,),), 5, 0)
        self.check(ring, ((0, 1),) * 5 + ((2, 1),), 5, 1)
        self.check_good(ring, ((0, 1),) * 4 + ((0,), (1,)))
        self.check((3, 4, (("pin", 0, 3), ("pin", 1, 2), ("pin", 0, 1), ("pin", 2, 3))), ((0, 2),) * 4, 3, 0)
        self.check_good((3, 4, (("pin", 0, 3), ("pin", 1, 2), ("pin", 0, 1), ("pin", 2, 3))), ((0, 2),) * 3 + ((1,),))

    def test_the_first_of_several_faults(self):
        frame = (3, 3, (("pin", 0, 1), ("pin", 0, 1), ("pin", 1, 2)))
        self.check(frame, ((0, 0), None, None), 0, 1)
        self.check(frame, ((0, 1), (0, 5), None), 1, 0)
        self.check(frame, ((0, 1), (2, 1), None), 1, 1)
        self.check(frame, ((0, 1), (0, 5, 7), None), 1)
        self.check(frame, ((0, 1), (), (5, 0, 1)), 2)

    def test_by_the_words_of_the_document(self):
        rng = drawn(8)
        for frame in draw_frames(9, 150, 4, 6):
            value = tuple(
                tuple(sorted(rng.sample(range(frame[0]), rng.randint(0, SIZE[frame[0]][kind]))))
                for kind, _, _ in frame[2]
            )
            fault = packing_fault(frame, value)
            self.assertEqual(fault is None, slow_is_packing(frame, value))
            if fault is not None:
                at, place = fault
                cut = value[:at] + (value[at][:place],) + ((),) * (len(value) - at - 1)
                self.check_good(frame, cut)

    def test_the_frame_is_asked_first(self):
        for function in (packing_fault, is_packing, need_packing):
            with self.assertRaises(BadFrame):
                function((3, 2, (("pin", 0, 2),)), Spiteful())
