"""[152]: LOADS and their ANSWERS."""

import math
import unittest
from fractions import Fraction

from bodybars.errors import BadFrame, BadLoad, BadPlacement
from bodybars.forces import is_balanced, load_answer, load_fault, need_load
from bodybars.placed import left_at
from bodybars.rows import kept_rows
from tests.helper import (
    FRAMES, STRANGE, Spiteful, draw_frames, drawn, placed_frames, slow_matrix, slow_null, slow_rank, times,
)
from tests.test_stresses import made

HEAVY = 10 ** 9
PIN = (3, 2, (("pin", 0, 1),))
AT = ((2, 5),)
TWO_BARS = (3, 2, (("bar", 0, 1), ("bar", 0, 1)))
ONE_LINE = (((0, 0), (2, 0)), ((5, 0), (3, 0)))


def draw_load(rng, frame, placement):
    """A LOAD: any, or balanced, or one that some forces make."""
    dimension, many, _ = frame
    kind = rng.randrange(3)
    if kind == 0:
        row = [0] * (dimension * many)
        for line in slow_matrix(frame, placement):
            part = rng.randint(-2, 2)
            row = [number + part * more for number, more in zip(row, line)]
        common = math.gcd(*row) or 1
        return tuple(number // common for number in row)
    load = [rng.randint(-5, 5) for _ in range(dimension * many)]
    if kind == 1:
        for place in range(dimension):
            load[place] -= sum(load[place::dimension])
    return tuple(load)


def is_borne(frame, placement, load):
    matrix = slow_matrix(frame, placement)
    return slow_rank([*matrix, load], len(load)) == slow_rank(matrix, len(load))


class Loads(unittest.TestCase):
    def test_loads(self):
        for load in ((0,) * 6, (HEAVY,) * 6, (-HEAVY, HEAVY, 0, 1, 2, 3)):
            self.assertEqual(need_load(PIN, load), load)
        self.assertEqual(need_load((1, 1, ()), (7,)), (7,))

    def test_wrong_loads(self):
        calls = (
            lambda load: need_load(PIN, load), lambda load: is_balanced(PIN, load),
            lambda load: load_answer(PIN, AT, load), lambda load: load_fault(PIN, AT, load, None),
        )
        for call in calls:
            for load in STRANGE + (0, (), (0,) * 5, (0,) * 7, [0] * 6, (None,) * 7):
                with self.assertRaises(BadLoad) as caught:
                    call(load)
                self.assertEqual(caught.exception.index, -1)
            for number in STRANGE + (HEAVY + 1, -HEAVY - 1, 10 ** 999, (0,)):
                for place in (0, 3, 5):
                    load = tuple(number if at == place or at == 5 else 0 for at in range(6))
                    with self.assertRaises(BadLoad) as caught:
                        call(load)
                    self.assertEqual(caught.exception.index, place)

    def test_balanced(self):
        self.assertIs(is_balanced(PIN, (1, 2, 3, -1, -2, -3)), True)
        self.assertIs(is_balanced(PIN, (0,) * 6), True)
        for load in ((1, 0, 0, 0, 0, 0), (1, 2, 3, -1, -2, 3), (1, 2, 3, 1, 2, 3), (1, 0, 0, 0, -1, 0)):
            self.assertIs(is_balanced(PIN, load), False)
        self.assertIs(is_balanced((1, 3, ()), (5, -2, -3)), True)
        self.assertIs(is_balanced((1, 1, ()), (5,)), False)
        self.assertIs(is_balanced((6, 2, ()), (1, 2, 3, 4, 5, 6, -1, -2, -3, -4, -5, -6)), True)

    def test_frames_come_first(self):
        for function in (need_load, is_balanced):
            with self.assertRaises(BadFrame):
                function((3, 2, [1]), None)
        for function in (load_answer, lambda *args: load_fault(*args, None)):
            with self.assertRaises(BadFrame):
                function((3, 2, [1]), None, None)
            with self.assertRaises(BadPlacement) as caught:
                function(PIN, ((0, True),), None)
            self.assertEqual(caught.exception.number, 0)


class Answers(unittest.TestCase):
    def test_examples(self):
        self.assertEqual(load_answer(PIN, AT, (1, 1, -3, -1, -1, 3)), ("borne", 1, ((1, 1),)))
        self.assertEqual(load_answer(TWO_BARS, ONE_LINE, (3, 0, 0, -3, 0, 0)), ("borne", 2, ((3,), (0,))))
        self.assertEqual(load_answer(PIN, AT, (0,) * 6), ("borne", 1, ((0, 0),)))
        self.assertEqual(load_answer(PIN, ((0, 0),), (0, 0, 1, 0, 0, -1)), ("moved", (0, 0, 1, 0, 0, 0)))
        self.assertEqual(load_answer(PIN, ((0, 0),), (0, 0, -1, 0, 0, 1)), ("moved", (0, 0, -1, 0, 0, 0)))
        self.assertEqual(load_answer(PIN, ((0, 0),), (0, 0, 0, 0, 0, 1)), ("moved", (0, 0, 0, 0, 0, 1)))
        self.assertEqual(load_answer((3, 1, ()), (), (0, -4, 0)), ("moved", (0, -1, 0)))
        self.assertEqual(load_answer((3, 1, ()), (), (0, 0, 0)), ("borne", 1, ()))

    def test_drawn_ones(self):
        rng = drawn(231)
        words = []
        for frame, placement in placed_frames(232, [*FRAMES[:-2], *draw_frames(233, 60, 4, 7)]):
            wide = frame[0] * frame[1]
            matrix = slow_matrix(frame, placement)
            for _ in range(2):
                load = draw_load(rng, frame, placement)
                answer = load_answer(frame, placement, load)
                self.assertEqual(load_fault(frame, placement, load, answer), "")
                borne = is_borne(frame, placement, load)
                words.append(answer[0])
                self.assertEqual(answer[0], "borne" if borne else "moved")
                if not is_balanced(frame, load):
                    self.assertFalse(borne)
                elif left_at(frame, placement) == 0:
                    self.assertTrue(borne)
                if borne:
                    _, count, forces = answer
                    self.assertEqual(made(frame, placement, forces), tuple(count * number for number in load))
                    row = [number for part in forces for number in part]
                    kept = kept_rows(matrix, wide)
                    self.assertTrue(all(number == 0 or at in kept for at, number in enumerate(row)))
                    self.assertEqual(count, math.lcm(1, *[Fraction(number, count).denominator for number in row]))
                else:
                    first = next(null for null in slow_null(matrix, wide) if times(null, load) != 0)
                    sign = 1 if times(first, load) > 0 else -1
                    self.assertEqual(answer[1], tuple(sign * number for number in first))
        self.assertGreater(min(words.count("borne"), words.count("moved")), 40)

    def test_all_balanced_loads_are_borne_exactly_if_nothing_is_left(self):
        for frame, placement in placed_frames(234, draw_frames(235, 40, 3, 6)):
            dimension, many, _ = frame
            borne = []
            for body in range(1, many):
                for place in range(dimension):
                    load = [0] * (dimension * many)
                    load[place], load[dimension * body + place] = 1, -1
                    borne.append(load_answer(frame, placement, tuple(load))[0] == "borne")
            self.assertIs(all(borne), left_at(frame, placement) == 0)

    def test_many_joints_and_heavy_loads(self):
        frame = (6, 2, (("weld", 0, 1),) * 40)
        load = (HEAVY, -HEAVY, 0, 1, 2, 3, -HEAVY, HEAVY, 0, -1, -2, -3)
        self.assertEqual(load_answer(frame, ((),) * 40, load), ("borne", 1, (load[:6],) + ((0,) * 6,) * 39))


class Faults(unittest.TestCase):
    LOAD = (1, 1, -3, -1, -1, 3)
    TURNING = (0, 0, 1, 0, 0, -1)

    def check(self, load, answer, word):
        self.assertEqual(load_fault(PIN, AT, load, answer), word)

    def test_answers_that_are_right(self):
        self.check(self.LOAD, ("borne", 1, ((1, 1),)), "")
        self.check(self.LOAD, ("borne", 7, ((7, 7),)), "")
        self.check((0,) * 6, ("borne", 5, ((0, 0),)), "")
        self.check(self.TURNING, ("moved", (5, -2, 1, 0, 0, 0)), "")
        self.check(self.TURNING, ("moved", (15, -6, 3, 0, 0, 0)), "")
        self.check(self.TURNING, ("moved", (0, 0, 0, -5, 2, -1)), "")

    def test_form(self):
        forces = ((1, 1),)
        for answer in STRANGE + (
            0, (), ("borne",), ("borne", 1), ("borne", 1, forces, 1), ["borne", 1, forces], ("Borne", 1, forces), ("moved", 1, forces),
            ("borne", 0, ((0, 0),)), ("borne", -1, ((-1, -1),)), ("borne", True, forces), ("borne", None, forces),
            ("borne", 1, (1, 1)), ("borne", 1, [(1, 1)]), ("borne", 1, ([1, 1],)), ("borne", 1, ((1, 1, 0),)), ("borne", 1, ()),
            ("borne", 1, ((1, True),)), ("borne", 1, ((1, 1), ())), (Spiteful(), 1, forces), ("borne", Spiteful(), forces),
            ("borne", 1, Spiteful()), ("borne", 1, ((Spiteful(), 1),)), ("moved",), ("moved", (5, -2, 1, 0, 0)),
            ("moved", (5, -2, 1, 0, 0, 0, 0)), ("moved", [5, -2, 1, 0, 0, 0]), ("moved", (5, -2, True, 0, 0, 0)),
            ("borne", (5, -2, 1, 0, 0, 0)), ("moved", Spiteful()), (Spiteful(), (5, -2, 1, 0, 0, 0)), (b"moved", (0,) * 6),
        ):
            self.check(self.LOAD, answer, "form")
            self.check(self.TURNING, answer, "form")

    def test_the_other_words(self):
        self.check(self.LOAD, ("borne", 1, ((1, 2),)), "bears")
        self.check(self.LOAD, ("borne", 2, ((1, 1),)), "bears")
        self.check(self.LOAD, ("borne", 1, ((-1, -1),)), "bears")
        self.check(self.TURNING, ("borne", 1, ((0, 0),)), "bears")
        self.check(self.TURNING, ("moved", (0, 0, 1, 0, 0, 0)), "rows")
        self.check(self.TURNING, ("moved", (0, 0, -1, 0, 0, 0)), "rows")
        self.check(self.TURNING, ("moved", (-5, 2, -1, 0, 0, 0)), "work")
        self.check(self.TURNING, ("moved", (0,) * 6), "work")
        self.check(self.TURNING, ("moved", (1, 0, 0, 1, 0, 0)), "work")
        self.check(self.LOAD, ("moved", (5, -2, 1, 0, 0, 0)), "work")

    def test_just_one_word(self):
        rng = drawn(236)
        for frame, placement in placed_frames(237, draw_frames(238, 40, 3, 4)):
            load = draw_load(rng, frame, placement)
            other = draw_load(rng, frame, placement)
            answer = load_answer(frame, placement, other)
            # An answer to another load is one to this one, too, only if it does for this one what it says.
            due = ""
            if answer[0] == "borne":
                due = "" if made(frame, placement, answer[2]) == tuple(answer[1] * n for n in load) else "bears"
            elif times(answer[1], load) <= 0:
                due = "work"
            self.assertEqual(load_fault(frame, placement, load, answer), due)
