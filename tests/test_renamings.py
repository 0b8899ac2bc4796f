"""[35]: RENAMINGS."""

import unittest

from bodybars.bounds import bound_of
from bodybars.errors import BadFrame, BadParting, BadRenaming, BadRow
from bodybars.packings import is_packing
from bodybars.partings import parting_fault
from bodybars.placements import placement_fault
from bodybars.renamings import renamed, renamed_parting, renamed_row, renaming_back, renaming_fault, renaming_then
from bodybars.woods import rank_of
from tests.helper import (
    STRANGE, Spiteful, draw_frames, draw_packing, draw_parting, draw_placement, draw_renaming, drawn,
)

FRAME = (3, 3, (("pin", 0, 1), ("bar", 1, 2), ("weld", 0, 2)))


class Renamed(unittest.TestCase):
    def test_an_example(self):
        self.assertEqual(
            renamed(FRAME, ((2, 0, 1), (1, 2, 0))),
            (3, 3, (("bar", 0, 1), ("weld", 1, 2), ("pin", 0, 2))),
        )
        self.assertEqual(renamed((6, 1, ()), ((0,), ())), (6, 1, ()))
        self.assertEqual(renamed_parting((0, 0, 1), (2, 0, 1)), (0, 1, 0))
        self.assertEqual(renamed_parting((0, 1, 1, 2), (3, 0, 2, 1)), (0, 1, 0, 2))
        self.assertEqual(renamed_row(("a", "b", "c"), (1, 2, 0)), ("b", "c", "a"))
        self.assertEqual(renamed_row((), ()), ())

    def test_drawn_ones(self):
        rng = drawn(10)
        for frame in draw_frames(11, 80, 6, 8):
            renaming = bodies, order = draw_renaming(rng, frame)
            told = renamed(frame, renaming)
            self.assertEqual(told[:2], frame[:2])
            for (kind, one, other), old in zip(told[2], order):
                ends = sorted((bodies[frame[2][old][1]], bodies[frame[2][old][2]]))
                self.assertEqual([kind, one, other], [frame[2][old][0], *ends])
            self.assertIsNone(renaming_fault(frame, renaming))
            self.assertEqual(rank_of(told), rank_of(frame))
            parting = draw_parting(rng, frame[1])
            new = renamed_parting(parting, bodies)
            self.assertIsNone(parting_fault(frame[1], new))
            for one in range(frame[1]):
                for other in range(frame[1]):
                    self.assertEqual(parting[one] == parting[other], new[bodies[one]] == new[bodies[other]])
            self.assertEqual(bound_of(told, new), bound_of(frame, parting))
            self.assertTrue(is_packing(told, renamed_row(draw_packing(rng, frame), order)))
            placement = draw_placement(rng, frame)
            self.assertIsNone(placement_fault(told, renamed_row(placement, order)))
            self.check_back(frame, renaming, parting, placement)
            self.check_then(rng, frame, renaming)

    def check_back(self, frame, renaming, parting, placement):
        back = renaming_back(renaming)
        self.assertEqual(renamed(renamed(frame, renaming), back), frame)
        self.assertEqual(renamed_parting(renamed_parting(parting, renaming[0]), back[0]), parting)
        self.assertEqual(renamed_row(renamed_row(placement, renaming[1]), back[1]), placement)
        nothing = (tuple(range(frame[1])), tuple(range(len(frame[2]))))
        self.assertEqual(renaming_then(renaming, back), nothing)
        self.assertEqual(renaming_then(back, renaming), nothing)
        self.assertEqual(renaming_then(renaming, nothing), renaming)

    def check_then(self, rng, frame, renaming):
        second = draw_renaming(rng, frame)
        both = renaming_then(renaming, second)
        self.assertEqual(renamed(frame, both), renamed(renamed(frame, renaming), second))
        row = tuple(f"thing {at}" for at in range(len(frame[2])))
        self.assertEqual(renamed_row(row, both[1]), renamed_row(renamed_row(row, renaming[1]), second[1]))

    def test_of_any_length(self):
        long = tuple(range(99, -1, -1))
        self.assertEqual(renaming_back(((1, 2, 0), long)), ((2, 0, 1), long))
        self.assertEqual(renaming_back(((), ())), ((), ()))
        self.assertEqual(renaming_then(((), (1, 0)), ((), (1, 0))), ((), (0, 1)))
        self.assertEqual(renaming_then((long, ()), (long, ())), (tuple(range(100)), ()))
        self.assertEqual(renaming_then(((1, 2, 0), (1, 2, 0)), ((0, 2, 1), (0, 2, 1))), ((2, 1, 0), (1, 0, 2)))


class Faults(unittest.TestCase):
    def check(self, value, *place):
        self.assertEqual(renaming_fault(FRAME, value), place)
        with self.assertRaises(BadRenaming) as caught:
            renamed(FRAME, value)
        self.assertEqual(caught.exception.place, place)

    def test_no_pair(self):
        for value in STRANGE + (0, (), ((0, 1, 2),), ((0, 1, 2), (0, 1, 2), ()), [(0, 1, 2), (0, 1, 2)]):
            self.check(value)

    def test_each_place(self):
        good = (2, 0, 1)
        for value in STRANGE + (0, (), (0, 1), (0, 1, 2, 3), [0, 1, 2]):
            self.check((value, None), 0)
            self.check((good, value), 1)
        for value in STRANGE + (-1, 3, 10 ** 999, (0,)):
            for place in range(3):
                row = good[:place] + (value,) + (None,) * (2 - place)
                self.check((row, None), 0, place)
                self.check((good, row), 1, place)
        self.check(((0, 0, 0), None), 0, 1)
        self.check(((0, 1, 0), good), 0, 2)
        self.check((good, (1, 1, 5)), 1, 1)
        self.check((good, (2, 1, 2)), 1, 2)

    def test_a_renamed_parting(self):
        for parting, bodies, place in (
            *(((0, 0), value, (0,)) for value in STRANGE), ((0, 0), (0,), (0,)), ((0, 0), (0, 1, 2), (0,)),
            ((0, 0), (2, 0), (0, 0)), ((0, 0), (0, 0), (0, 1)), ((0, 0), (1, True), (0, 1)),
        ):
            with self.assertRaises(BadRenaming) as caught:
                renamed_parting(parting, bodies)
            self.assertEqual(caught.exception.place, place)
        with self.assertRaises(BadParting) as caught:
            renamed_parting((0, 2), None)
        self.assertEqual(caught.exception.place, 1)
        with self.assertRaises(BadParting) as caught:
            renamed_parting((0,) * 9, None)
        self.assertEqual(caught.exception.place, -1)

    def test_a_renamed_row(self):
        for row in STRANGE + (0, [1]):
            with self.assertRaises(BadRow) as caught:
                renamed_row(row, None)
            self.assertEqual(caught.exception.index, -1)
        for order, place in (
            *((value, (1,)) for value in STRANGE), ((0,), (1,)), ((0, 1, 2), (1,)), ((2, None), (1, 0)),
            ((1, 1), (1, 1)), ((0, True), (1, 1)),
        ):
            with self.assertRaises(BadRenaming) as caught:
                renamed_row((Spiteful(), None), order)
            self.assertEqual(caught.exception.place, place)

    def test_renamings_of_any_length(self):
        good = ((1, 0), (0, 2, 1))
        wrong = [
            *((value, ()) for value in STRANGE), ((), ()), (((),), ()), (((), (), ()), ()),
            *(((value, None), (0,)) for value in STRANGE), *((((0,), value), (1,)) for value in STRANGE),
            (((0, 2), None), (0, 1)), (((0, 1, 1), None), (0, 2)), (((False,), None), (0, 0)),
            (((), (1,)), (1, 0)), (((), (1, 0, -1)), (1, 2)), (((0,), (1, 0, 0)), (1, 2)),
        ]
        for value, place in wrong:
            for call in (
                lambda: renaming_back(value), lambda: renaming_then(value, None), lambda: renaming_then(good, value),
            ):
                with self.assertRaises(BadRenaming) as caught:
                    call()
                self.assertEqual(caught.exception.place, place)

    def test_unlike_lengths(self):
        for first, second, place in (
            (((1, 0), ()), ((0,), ()), (0,)), (((1, 0), ()), ((0, 1, 2), (0,)), (0,)),
            (((1, 0), (0,)), ((0, 1), ()), (1,)), (((), ()), ((), (0,)), (1,)),
            (((1, 0), ()), ((0,), (1,)), (1, 0)),
        ):
            with self.assertRaises(BadRenaming) as caught:
                renaming_then(first, second)
            self.assertEqual(caught.exception.place, place)

    def test_the_frame_is_asked_first(self):
        for function in (renaming_fault, renamed):
            with self.assertRaises(BadFrame):
                function((3, 3, (("pin", 2, 2),)), None)
