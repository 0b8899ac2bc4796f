"""[54], [57]: PLACEMENTS moved on."""

import unittest

from bodybars.alongs import along, first_general
from bodybars.errors import BadFrame, BadNumber, BadPlacement, TooGreat
from bodybars.made import general_paper, placement_of_packing
from bodybars.placed import is_general
from bodybars.placements import placement_fault
from bodybars.woods import greatest_packing, rank_of
from tests.helper import FRAMES, STRANGE, draw_frames, draw_placement, drawn, placed_frames

FAR = 10 ** 9
FRAME = (3, 3, (("bar", 0, 1), ("pin", 1, 2), ("weld", 0, 2)))
PLACED = (((0, 0), (1, 1)), (5, 7), ())
OTHER = (((1, 0), (0, 0)), (-1, 2), ())


def slow_along(placement, other, number):
    """The coordinates, whatever they are."""
    if type(placement) is int:
        return placement + number * other
    return tuple(slow_along(one, onto, number) for one, onto in zip(placement, other))


class Along(unittest.TestCase):
    def test_examples(self):
        self.assertEqual(along(FRAME, PLACED, OTHER, 0), PLACED)
        self.assertEqual(along(FRAME, PLACED, OTHER, 1), (((1, 0), (1, 1)), (4, 9), ()))
        self.assertEqual(along(FRAME, PLACED, OTHER, 1000), (((1000, 0), (1, 1)), (-995, 2007), ()))
        space = (6, 2, (("hinge", 0, 1), ("bar", 0, 1)))
        one = (((0, 0, 0), (1, 2, 3)), ((0, 0, 1), (0, 1, 0)))
        other = (((0, 0, 1), (0, 1, 0)), ((5, 5, 5), (6, 6, 6)))
        self.assertEqual(along(space, one, other, 2), (((0, 0, 2), (1, 4, 3)), ((10, 10, 11), (12, 13, 12))))
        self.assertEqual(along((1, 2, (("bar", 0, 1),)), ((),), ((),), 1000), ((),))
        self.assertEqual(along((3, 1, ()), (), (), 7), ())

    def test_two_ends_that_become_one_place(self):
        onto = (((0, 0), (-1, -1)), (0, 0), ())
        self.assertIsNone(along(FRAME, PLACED, onto, 1))
        self.assertEqual(along(FRAME, PLACED, onto, 2), (((0, 0), (-1, -1)), (5, 7), ()))
        hinge = (6, 2, (("hinge", 0, 1),))
        self.assertIsNone(along(hinge, (((0, 0, 0), (0, 0, 6)),), (((0, 0, 2), (0, 0, 0)),), 3))

    def test_drawn_ones(self):
        rng = drawn(201)
        seen = set()
        for frame, placement in placed_frames(202, [*FRAMES[:-1], *draw_frames(203, 60, 5, 8)], 2, 2):
            other = draw_placement(rng, frame, rng.choice((1, 5)))
            for number in (0, 1, 2, rng.randint(0, 1000), 1000):
                due = slow_along(placement, other, number)
                due = due if placement_fault(frame, due) is None else None
                self.assertEqual(along(frame, placement, other, number), due)
                seen.add(due is None)
        self.assertEqual(seen, {True, False})

    def test_beyond_the_greatest_coordinate(self):
        frame = (3, 2, (("pin", 0, 1), ("bar", 0, 1)))
        placement = ((FAR - 1000, -FAR + 5), ((0, 0), (1, 0)))
        step = ((1, 0), ((0, 1), (0, 0)))
        self.assertEqual(along(frame, placement, step, 1000), ((FAR, -FAR + 5), ((0, 1000), (1, 0))))
        for step, number in ((((2, 0), step[1]), 501), (((0, -1), step[1]), 6), (((0, 0), ((FAR, 0), (0, 0))), 2)):
            with self.assertRaises(TooGreat) as caught:
                along(frame, placement, step, number)
            self.assertEqual(caught.exception.most, FAR)
            along(frame, placement, step, 0)

    def test_too_great_comes_ahead_of_none(self):
        frame = (3, 2, (("bar", 0, 1), ("pin", 0, 1)))
        placement = (((0, 0), (1, 1)), (FAR, 0))
        onto = (((0, 0), (-1, -1)), (1, 0))
        with self.assertRaises(TooGreat):
            along(frame, placement, onto, 1)
        both = (((FAR, 0), (FAR - 1, 0)), (0, 0))
        with self.assertRaises(TooGreat):
            along(frame, both, (((1, 0), (2, 0)), (0, 0)), 1)

    def test_errors_in_their_order(self):
        with self.assertRaises(BadFrame):
            along(None, None, None, None)
        with self.assertRaises(BadPlacement) as caught:
            along(FRAME, (PLACED[0], (5, True), None), None, None)
        self.assertEqual(caught.exception.number, 1)
        with self.assertRaises(BadPlacement) as caught:
            along(FRAME, PLACED, OTHER[:2] + (None,), None)
        self.assertEqual(caught.exception.number, 2)
        for value in STRANGE + (-1, 1001, 10 ** 999, (1,)):
            with self.assertRaises(BadNumber) as caught:
                along(FRAME, PLACED, OTHER, value)
            self.assertIs(caught.exception.value, value)
        with self.assertRaises(BadNumber):
            along(FRAME, (((FAR, FAR), (0, 0)), (FAR, FAR), ()), (((1, 1), (0, 0)), (1, 1), ()), 1001)


class FirstGeneral(unittest.TestCase):
    def test_few_steps_by_a_general_placement_are_special(self):
        for frame, placement in placed_frames(206, [*FRAMES[3:-3], *draw_frames(207, 20, 3, 5)], 1):
            for step in (general_paper(frame)[2], draw_placement(drawn(208), frame, 9)):
                if is_general(frame, step):
                    most = 2 * rank_of(frame) + len(frame[2])
                    moved = [along(frame, placement, step, number) for number in range(most + 20)]
                    special = [one for one in moved if one is None or not is_general(frame, one)]
                    self.assertLessEqual(len(special), most)

    def test_it_is_the_first(self):
        seen = set()
        for frame, placement in placed_frames(204, [*FRAMES[:-1], *draw_frames(205, 60, 5, 8)], 1, 2):
            step = placement_of_packing(frame, greatest_packing(frame))
            told = first_general(frame, placement)
            self.assertLessEqual(told, 2 * rank_of(frame) + len(frame[2]))
            for number in range(told + 1):
                moved = slow_along(placement, step, number)
                fits = placement_fault(frame, moved) is None and is_general(frame, moved)
                self.assertIs(fits, number == told)
            seen.add(min(told, 2))
        self.assertEqual(seen, {0, 1, 2})

    def test_all_places_alike(self):
        frame = (3, 4, (("pin", 0, 1), ("pin", 1, 2), ("pin", 2, 3), ("pin", 0, 3)))
        self.assertEqual(first_general(frame, ((7, 7),) * 4), 1)
        self.assertEqual(first_general(frame, ((0, 0), (1, 0), (1, 1), (0, 1))), 0)
        self.assertEqual(first_general((1, 2, (("bar", 0, 1),)), ((),)), 0)
        self.assertEqual(first_general((6, 1, ()), ()), 0)

    def test_where_two_ends_become_one_place(self):
        frame = (3, 2, (("bar", 0, 1),) * 3)
        step = placement_of_packing(frame, greatest_packing(frame))
        # Each bar has one place for both ends after one step.
        placement = tuple((tuple(q), tuple(p)) for p, q in step)
        told = first_general(frame, placement)
        self.assertEqual(told, 0 if is_general(frame, placement) else 2)
        one_line = tuple(((p[0] - q[0] + 5, p[1] - q[1] + 5), (5, 5)) if at == 0 else ((0, 0), (1, 0)) for at, (q, p) in enumerate(step))
        told = first_general(frame, one_line)
        for number in range(told + 1):
            moved = slow_along(one_line, step, number)
            self.assertIs(placement_fault(frame, moved) is None and is_general(frame, moved), number == told)

    def test_beyond_the_greatest_coordinate(self):
        frame = (3, 2, (("bar", 0, 1),) * 3)
        far = (((FAR, FAR), (FAR - 1, FAR - 1)),) * 3
        with self.assertRaises(TooGreat) as caught:
            first_general(frame, far)
        self.assertEqual(caught.exception.most, FAR)
        general = (((FAR, FAR), (0, 0)), ((FAR, 0), (0, 0)), ((FAR, 5), (0, 7)))
        self.assertEqual(first_general(frame, general), 0)
        self.assertEqual(first_general(frame, (((-FAR, -FAR), (1 - FAR, -FAR)),) * 3) > 0, True)

    def test_errors_in_their_order(self):
        with self.assertRaises(BadFrame):
            first_general(None, None)
        with self.assertRaises(BadPlacement):
            first_general(FRAME, PLACED[::-1])
