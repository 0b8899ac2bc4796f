"""[74]: MENUS, CHOICES and MENU PAPERS."""

import itertools
import unittest

from bodybars.errors import BadFrame, BadMenu
from bodybars.extremes import least_parting
from bodybars.menus import choice_of, makes_stiff, menu_fault, menu_paper, menu_paper_fault, need_menu
from tests.helper import FRAMES, STRANGE, Spiteful, draw_frames, drawn, slow_bound, slow_is_packing, slow_rank_of

DEAR = 10 ** 6
RING = (3, 4, (("pin", 0, 1), ("pin", 1, 2), ("pin", 2, 3), ("pin", 0, 3)))
MENU = ((0, 2, 5), (1, 3, 5), (0, 1, 1))
DEAR_MENU = ((0, 2, 5), (1, 3, 6), (0, 1, 6))
LONE = (6, 1, ())


def draw_menu(rng, frame, most, far):
    if frame[1] == 1:
        return ()
    many = rng.randint(0, min(most, 40 - len(frame[2])))
    return tuple((*sorted(rng.sample(range(frame[1]), 2)), rng.randint(1, far)) for _ in range(many))


def menu_frames(seed, times, most=6):
    rng = drawn(seed)
    for frame in [*FRAMES[:10], *draw_frames(seed + 1, times, 4, 6)]:
        yield frame, draw_menu(rng, frame, most, rng.choice((1, 2, 4, DEAR)))


def with_items(frame, menu, items):
    return (frame[0], frame[1], frame[2] + tuple(("bar", *menu[item][:2]) for item in items))


def all_choices(menu):
    return [choice for many in range(len(menu) + 1) for choice in itertools.combinations(range(len(menu)), many)]


def full_choices(frame, menu):
    """The CHOICES that are full, by their words."""
    top = slow_rank_of(with_items(frame, menu, range(len(menu))))
    due = top - slow_rank_of(frame)
    return [
        choice for choice in all_choices(menu)
        if len(choice) == due and slow_rank_of(with_items(frame, menu, choice)) == top
    ]


def cost_of(menu, choice):
    return sum(menu[item][2] for item in choice)


class Menus(unittest.TestCase):
    def check(self, frame, value, fault):
        self.assertEqual(menu_fault(frame, value), fault)
        if fault is None:
            self.assertEqual(need_menu(frame, value), value)
            return
        for call in (need_menu, choice_of, makes_stiff, menu_paper, lambda *args: menu_paper_fault(*args, Spiteful())):
            with self.assertRaises(BadMenu) as caught:
                call(frame, value)
            self.assertEqual(caught.exception.place, fault)

    def test_menus(self):
        for menu in ((), MENU, MENU * 12, ((0, 1, DEAR),), ((0, 1, 1), (0, 1, 1))):
            self.check(RING, menu, None)
        self.check(LONE, (), None)

    def test_no_menus(self):
        for value in STRANGE + (0, [], list(MENU)):
            self.check(RING, value, -1)
        for item in STRANGE + (
            0, (), (0, 1), (0, 1, 1, 1), [0, 1, 1], (1, 0, 1), (1, 1, 1), (-1, 1, 1), (0, 4, 1), (0, 1, 0), (0, 1, DEAR + 1),
            (0, 1, -1), (False, 1, 1), (0, True, 1), (0, 1, True), (0, 1, None), (None, 1, 1), (0, "1", 1), (0, 1, 10 ** 999),
        ):
            self.check(RING, (item, None), 0)
            self.check(RING, MENU + (item, Spiteful()), 3)
        self.check(LONE, ((0, 1, 1),), 0)

    def test_forty_together(self):
        for frame in ((3, 2, (("bar", 0, 1),) * 30), (6, 3, (("hinge", 1, 2),) * 40), (1, 4, ())):
            room = 40 - len(frame[2])
            menu = ((0, 1, 3),) * room
            self.check(frame, menu, None)
            self.assertEqual(menu_paper_fault(frame, menu, menu_paper(frame, menu)), "")
            self.check(frame, menu + ((0, 1, 3),), -1)
            self.check(frame, menu + (None,), -1)

    def test_the_frame_comes_first(self):
        for call in (
            lambda frame: menu_fault(frame, Spiteful()), lambda frame: need_menu(frame, None),
            lambda frame: choice_of(frame, None), lambda frame: makes_stiff(frame, None),
            lambda frame: menu_paper(frame, None), lambda frame: menu_paper_fault(frame, None, None),
        ):
            with self.assertRaises(BadFrame):
                call((3, 2, [1]))


class Choices(unittest.TestCase):
    def test_examples(self):
        self.assertEqual(choice_of(RING, MENU), (2,))
        self.assertEqual(choice_of(RING, MENU[1:]), (1,))
        self.assertEqual(choice_of(RING, MENU[:2]), (0,))
        self.assertEqual(choice_of(RING, DEAR_MENU), (0,))
        self.assertEqual(choice_of(RING, ((0, 2, 5), (1, 3, 4), (0, 1, 4))), (1,))
        self.assertEqual(choice_of(RING, ()), ())
        self.assertEqual(choice_of(LONE, ()), ())
        self.assertEqual(choice_of((1, 3, ()), ((0, 1, 2), (0, 1, 1), (1, 2, 1), (0, 2, 1))), (1, 2))
        self.assertEqual(choice_of((3, 2, (("pin", 0, 1),)), ((0, 1, 2), (0, 1, 2))), (0,))
        self.assertIs(makes_stiff(RING, MENU), True)
        self.assertIs(makes_stiff(RING, MENU[2:]), True)
        self.assertIs(makes_stiff(RING, ()), False)
        self.assertIs(makes_stiff(LONE, ()), True)
        self.assertIs(makes_stiff((1, 3, ()), ((0, 1, 2), (0, 1, 1))), False)

    def test_against_all_choices(self):
        words = []
        for frame, menu in menu_frames(420, 70, 6):
            if frame[1] > 5:
                continue
            choice = choice_of(frame, menu)
            full = full_choices(frame, menu)
            self.assertIn(choice, full)
            least = min(cost_of(menu, other) for other in full)
            self.assertEqual(cost_of(menu, choice), least)
            # The greedy one takes each item that raises RANK, the cheaper and then the lesser one first.
            taken = []
            for item in sorted(range(len(menu)), key=lambda item: (menu[item][2], item)):
                if slow_rank_of(with_items(frame, menu, [*taken, item])) > slow_rank_of(with_items(frame, menu, taken)):
                    taken.append(item)
            self.assertEqual(choice, tuple(sorted(taken)))
            stiff = slow_rank_of(with_items(frame, menu, range(len(menu)))) == frame[0] * (frame[1] - 1)
            self.assertIs(makes_stiff(frame, menu), stiff)
            words.append((stiff, len(choice) > 1))
        self.assertEqual(len(set(words)), 4)


class Papers(unittest.TestCase):
    def test_papers(self):
        for frame, menu in [*menu_frames(430, 30), *menu_frames(435, 2, 40)]:
            paper = menu_paper(frame, menu)
            choice, packing, partings = paper
            self.assertEqual(choice, choice_of(frame, menu))
            self.assertTrue(slow_is_packing(with_items(frame, menu, choice), packing))
            levels = sorted({item[2] for item in menu})
            self.assertEqual(len(partings), len(levels) + 1)
            self.assertEqual(slow_bound(frame, partings[0], frame[0]), sum(map(len, packing)) - len(choice))
            for level, parting in zip(levels, partings[1:]):
                cheap = with_items(frame, menu, [item for item in range(len(menu)) if menu[item][2] <= level])
                dearer = [item for item in choice if menu[item][2] > level]
                self.assertEqual(slow_bound(cheap, parting, frame[0]), sum(map(len, packing)) - len(dearer))
            self.assertEqual(menu_paper_fault(frame, menu, paper), "")

    def test_there_are_papers_for_the_cheapest_full_choices_alone(self):
        for frame, menu in menu_frames(440, 20, 4):
            if frame[1] > 5:
                continue
            good = menu_paper(frame, menu)
            full = full_choices(frame, menu)
            least = min(cost_of(menu, choice) for choice in full)
            for choice in all_choices(menu):
                chosen = with_items(frame, menu, choice)
                packing = menu_paper(chosen, ())[1]
                word = menu_paper_fault(frame, menu, (choice, packing, good[2]))
                self.assertEqual(word == "", choice in full and cost_of(menu, choice) == least)

    def check(self, paper, word, menu=DEAR_MENU):
        self.assertEqual(menu_paper_fault(RING, menu, paper), word)

    def test_each_word(self):
        good = menu_paper(RING, DEAR_MENU)
        choice, packing, partings = good
        self.assertEqual(choice, (0,))
        self.assertEqual(partings, ((0, 1, 2, 3), (0, 0, 0, 0), (0, 0, 0, 0)))
        self.check(good, "")
        for paper in STRANGE + (0, (), good[:2], good + (1,), list(good)):
            self.check(paper, "form")
        for value in STRANGE + (0, (3,), (-1,), (0, 0), (1, 0), [0], (False,), (None,), (Spiteful(),)):
            self.check((value, packing, partings), "choice")
        for value in STRANGE + (0, (), packing[:4], packing + ((),), [*packing], ((0, 0), *packing[1:]), (None,) * 5):
            self.check((choice, value, partings), "packing")
        self.check(((), packing, partings), "packing")
        self.check(((0, 1), packing, partings), "packing")
        for value in STRANGE + (0, (), partings[:2], partings + ((0,) * 4,), [*partings]):
            self.check((choice, packing, value), "parting")
        for value in STRANGE + (0, (0, 0, 0), (0, 2, 0, 0), [0, 1, 2, 3]):
            for at in range(3):
                self.check((choice, packing, partings[:at] + (value,) + partings[at + 1:]), "parting")
        self.check((choice, packing, ((0, 0, 0, 0), *partings[1:])), "frame")
        self.check(((), packing[:4], partings), "level")
        self.check((choice, packing[:4] + ((),), partings), "frame")
        self.check((choice, packing, (partings[0], (0, 0, 1, 2), partings[2])), "level")
        self.check((choice, packing, (partings[0], partings[1], (0, 1, 2, 3))), "level")
        cheap = ((0, 2, 7), (1, 3, 6), (0, 1, 5))
        self.check((choice, packing, partings + ((0, 0, 0, 0),)), "level", cheap)
        self.check(menu_paper(RING, cheap), "", cheap)
        # A dearer CHOICE, with the PARTINGS that fit its own LEVEL alone.
        dearer = ((1,), menu_paper((*RING[:2], RING[2] + (("bar", 1, 3),)), ())[1], partings)
        self.check(dearer, "level")
        self.check(dearer, "", ((0, 2, 5), (1, 3, 5), (0, 1, 6)))

    def test_the_first_of_several(self):
        good = menu_paper(RING, DEAR_MENU)
        self.check(((3,), Spiteful(), Spiteful()), "choice")
        self.check(((0,), Spiteful(), Spiteful()), "packing")
        self.check((good[0], good[1][:4] + ((),), ((0, 0, 0, 0), None)), "parting")
        self.check((good[0], good[1], ((0, 0, 0, 0), (0, 0, 1, 2), (0, 1, 2, 3))), "frame")

    def test_without_items_or_joints(self):
        self.assertEqual(menu_paper(LONE, ()), ((), (), ((0,),)))
        self.assertEqual(menu_paper_fault(LONE, (), ((), (), ((0,),))), "")
        self.assertEqual(menu_paper((1, 2, ()), ()), ((), (), ((0, 1),)))
        self.assertEqual(menu_paper_fault((1, 2, ()), (), ((), (), ((0, 0),))), "frame")
        self.assertEqual(menu_paper((1, 2, ()), ((0, 1, 7),)), ((0,), ((0,),), ((0, 1), (0, 0))))
