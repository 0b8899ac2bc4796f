"""[157], [158]: COMPLIANCES, ENERGY, ELASTIC ANSWERS."""

import math
import unittest
from fractions import Fraction

from bodybars.elastic import elastic, elastic_fault, energy, need_compliances
from bodybars.errors import BadCompliance, BadFrame, BadLoad, BadNumber, BadPlacement, BadRow, Yields
from bodybars.forces import load_answer
from bodybars.stresses import stresses_at
from tests.helper import FRAMES, SIZE, STRANGE, Spiteful, draw_frames, drawn, placed_frames, slow_matrix, times
from tests.test_forces import draw_load, is_borne
from tests.test_stresses import made

HEAVY = 10 ** 9
TWO_BARS = (3, 2, (("bar", 0, 1), ("bar", 0, 1)))
ONE_LINE = (((0, 0), (1, 0)), ((5, 0), (3, 0)))
PULL = (6, 0, 0, -6, 0, 0)


def softness(frame, compliances):
    return [number for number, (kind, _, _) in zip(compliances, frame[2]) for _ in range(SIZE[frame[0]][kind])]


def flat(forces):
    return [number for part in forces for number in part]


def slow_energy(frame, compliances, forces):
    """ENERGY of fractions."""
    return sum(soft * Fraction(number) ** 2 for soft, number in zip(softness(frame, compliances), forces))


def draw_compliances(rng, frame):
    return tuple(rng.choice((1, 2, 3, 7, 100)) for _ in frame[2])


def drawn_cases(seed, many, bodies=3, joints=6):
    """Frames with placements, COMPLIANCES and LOADS that are borne."""
    rng = drawn(seed)
    for frame, placement in placed_frames(seed + 1, [*FRAMES[3:-3], *draw_frames(seed + 2, many, bodies, joints)]):
        load = draw_load(rng, frame, placement)
        if is_borne(frame, placement, load):
            yield rng, frame, placement, draw_compliances(rng, frame), load


class Compliances(unittest.TestCase):
    def test_bounds(self):
        for value in ((1, 1), (100, 1), (57, 99)):
            self.assertEqual(need_compliances(TWO_BARS, value), value)
        self.assertEqual(need_compliances((3, 2, ()), ()), ())

    def test_wrong_ones(self):
        calls = (
            lambda value: need_compliances(TWO_BARS, value), lambda value: elastic(TWO_BARS, ONE_LINE, value, None),
            lambda value: energy(TWO_BARS, value, None, None),
            lambda value: elastic_fault(TWO_BARS, ONE_LINE, value, None, None),
        )
        for call in calls:
            for value in STRANGE + (0, (), (1,), (1, 1, 1), [1, 1], (0,) * 3):
                with self.assertRaises(BadCompliance) as caught:
                    call(value)
                self.assertEqual(caught.exception.index, -1)
            for number in STRANGE + (0, 101, -1, 10 ** 999, (1,)):
                for value, index in (((number, None), 0), ((1, number), 1)):
                    with self.assertRaises(BadCompliance) as caught:
                        call(value)
                    self.assertEqual(caught.exception.index, index)


class Elastic(unittest.TestCase):
    def test_examples(self):
        count, forces, move = elastic(TWO_BARS, ONE_LINE, (1, 1), PULL)
        # Rows (1, 0, 0) and (-2, 0, 0): the longer one takes four fifths of the load, by a force half as great.
        self.assertEqual([Fraction(part[0], count) for part in forces], [Fraction(6, 5), Fraction(-12, 5)])
        count, forces, move = elastic(TWO_BARS, ONE_LINE, (1, 4), PULL)
        self.assertEqual([Fraction(part[0], count) for part in forces], [3, Fraction(-3, 2)])
        weld = (1, 2, (("weld", 0, 1), ("bar", 0, 1)))
        count, forces, move = elastic(weld, ((), ()), (1, 100), (101, -101))
        self.assertEqual([Fraction(part[0], count) for part in forces], [100, 1])
        self.assertEqual(Fraction(move[0] - move[1], count), 100)
        count, forces, move = elastic((3, 2, ()), (), (), (0,) * 6)
        self.assertEqual((count >= 1, forces, len(move)), (True, (), 6))

    def test_drawn_ones(self):
        tried = 0
        for rng, frame, placement, compliances, load in drawn_cases(261, 60):
            tried += 1
            answer = count, forces, move = elastic(frame, placement, compliances, load)
            self.assertEqual(elastic_fault(frame, placement, compliances, load, answer), "")
            self.assertGreaterEqual(count, 1)
            self.assertEqual(made(frame, placement, forces), tuple(count * number for number in load))
            rows = slow_matrix(frame, placement)
            soft = softness(frame, compliances)
            self.assertEqual([a * b for a, b in zip(soft, flat(forces))], [times(row, move) for row in rows])
            # Its ENERGY is the product of LOAD and MOVE.
            least = slow_energy(frame, compliances, [Fraction(number, count) for number in flat(forces)])
            self.assertEqual(least, Fraction(times(load, move), count))
            self.assertEqual(energy(frame, compliances, count, forces), (least.numerator, least.denominator))
            self.check_other_forces(rng, frame, placement, compliances, forces, count, least)
            for _ in range(3):
                row = [rng.randint(-3, 3) for _ in load]
                told = 2 * times(load, row) - sum(Fraction(times(line, row) ** 2, c) for line, c in zip(rows, soft))
                self.assertLessEqual(told, least)
            row = [Fraction(number, count) for number in move]
            told = 2 * times(load, row) - sum(times(line, row) ** 2 / c for line, c in zip(rows, soft))
            self.assertEqual(told, least)
        self.assertGreater(tried, 60)

    def check_other_forces(self, rng, frame, placement, compliances, forces, count, least):
        """Other FORCES that make the LOAD differ by a STRESS, and have more ENERGY by just that of the difference."""
        for stress in stresses_at(frame, placement):
            part = Fraction(rng.choice((-2, -1, 1, 3)), rng.choice((1, 5)))
            more = [part * number for number in flat(stress)]
            other = [Fraction(number, count) + extra for number, extra in zip(flat(forces), more)]
            grown = slow_energy(frame, compliances, other) - least
            self.assertEqual(grown, slow_energy(frame, compliances, more))
            self.assertGreater(grown, 0)

    def test_loads_and_moves_answer_one_another(self):
        rng = drawn(264)
        for frame, placement in placed_frames(265, draw_frames(266, 40, 3, 6)):
            loads = [load for load in (draw_load(rng, frame, placement) for _ in range(4)) if is_borne(frame, placement, load)]
            compliances = draw_compliances(rng, frame)
            if len(loads) < 2:
                continue
            (n, forces, move), (m, others, onto) = (elastic(frame, placement, compliances, load) for load in loads[:2])
            self.assertEqual(Fraction(times(loads[0], onto), m), Fraction(times(loads[1], move), n))
            both = tuple(a + b for a, b in zip(*loads[:2]))
            k, together, _ = elastic(frame, placement, compliances, both)
            due = [Fraction(a, n) + Fraction(b, m) for a, b in zip(flat(forces), flat(others))]
            self.assertEqual([Fraction(number, k) for number in flat(together)], due)

    def test_less_compliance_or_a_joint_more_never_makes_the_energy_greater(self):
        for rng, frame, placement, compliances, load in drawn_cases(267, 30):
            count, forces, _ = elastic(frame, placement, compliances, load)
            least = Fraction(*energy(frame, compliances, count, forces))
            for joint, number in enumerate(compliances):
                softer = compliances[:joint] + (max(1, number // 2),) + compliances[joint + 1:]
                count, forces, _ = elastic(frame, placement, softer, load)
                self.assertLessEqual(Fraction(*energy(frame, softer, count, forces)), least)
            if frame[1] > 1:
                more = (frame[0], frame[1], frame[2] + (("weld", 0, 1),))
                count, forces, _ = elastic(more, placement + ((),), compliances + (9,), load)
                self.assertLessEqual(Fraction(*energy(more, compliances + (9,), count, forces)), least)

    def test_heavy_loads_far_places_and_many_joints(self):
        rng = drawn(268)
        for frame in (FRAMES[-2], FRAMES[10], (6, 8, (("weld", 0, 7),) * 40)):
            for _, placement in placed_frames(269, [frame] * 2, HEAVY):
                compliances = tuple(rng.randint(1, 100) for _ in frame[2])
                one, other = frame[2][0][1:]
                load = [0] * (frame[0] * frame[1])
                row = slow_matrix(frame, placement)[0]
                common = math.gcd(*row)
                load = tuple(number // common for number in row)
                if max(map(abs, load)) > HEAVY:
                    continue
                answer = elastic(frame, placement, compliances, load)
                self.assertEqual(elastic_fault(frame, placement, compliances, load, answer), "")
        load = (HEAVY, 0, 0, -HEAVY, 0, 0)
        self.assertEqual(elastic_fault(TWO_BARS, ONE_LINE, (1, 100), load, elastic(TWO_BARS, ONE_LINE, (1, 100), load)), "")

    def test_loads_that_are_moved(self):
        rng = drawn(270)
        tried = 0
        for frame, placement in placed_frames(271, draw_frames(272, 40, 3, 6)):
            load = draw_load(rng, frame, placement)
            if not is_borne(frame, placement, load):
                tried += 1
                with self.assertRaises(Yields) as caught:
                    elastic(frame, placement, draw_compliances(rng, frame), load)
                self.assertEqual(("moved", caught.exception.motion), load_answer(frame, placement, load))
        self.assertGreater(tried, 20)

    def test_errors_in_their_order(self):
        for function in (elastic, lambda *args: elastic_fault(*args, None)):
            with self.assertRaises(BadFrame):
                function((3, 2, [1]), None, None, None)
            with self.assertRaises(BadPlacement):
                function(TWO_BARS, ONE_LINE[:1], None, None)
            with self.assertRaises(BadCompliance):
                function(TWO_BARS, ONE_LINE, (1, 0), None)
            for load, index in ((None, -1), ((0,) * 5, -1), ((0, 0, 0, HEAVY + 1, None, 0), 3), ((1, 0, 0, 0, 0, True), 5)):
                with self.assertRaises(BadLoad) as caught:
                    function(TWO_BARS, ONE_LINE, (1, 1), load)
                self.assertEqual(caught.exception.index, index)
        with self.assertRaises(BadFrame):
            need_compliances(None, None)
        with self.assertRaises(BadFrame):
            energy(None, None, None, None)


class Energy(unittest.TestCase):
    PINS = (3, 3, (("pin", 0, 1), ("bar", 1, 2)))

    def test_examples(self):
        self.assertEqual(energy(self.PINS, (1, 1), 1, ((3, 4), (5,))), (50, 1))
        self.assertEqual(energy(self.PINS, (2, 7), 1, ((3, 4), (-5,))), (225, 1))
        self.assertEqual(energy(self.PINS, (2, 7), 10, ((3, 4), (-5,))), (9, 4))
        self.assertEqual(energy(self.PINS, (2, 7), 15, ((3, 4), (5,))), (1, 1))
        self.assertEqual(energy(self.PINS, (2, 7), 4, ((0, 0), (0,))), (0, 1))
        self.assertEqual(energy(self.PINS, (100, 1), 1, ((10 ** 999, 0), (0,))), (10 ** 2000, 1))
        self.assertEqual(energy((3, 2, ()), (), 9, ()), (0, 1))
        self.assertEqual(energy((6, 2, (("hinge", 0, 1),)), (3,), 2, ((1, 1, 1, 1, 1),)), (15, 4))

    def test_wrong_counts_then_wrong_forces(self):
        for count in STRANGE + (0, -1, -10 ** 999, (1,)):
            with self.assertRaises(BadNumber) as caught:
                energy(self.PINS, (1, 1), count, None)
            self.assertIs(caught.exception.value, count)
        for forces in STRANGE + (
            0, (), ((3, 4),), ((3, 4), (5,), ()), [(3, 4), (5,)], ((3, 4), 5), ((3,), (4, 5)), ((3, 4), [5]), ((3, 4), (True,)),
            ((3, None), (5,)), (3, 4, 5), (Spiteful(), Spiteful()), ((3, 4), (5, 6)),
        ):
            with self.assertRaises(BadRow) as caught:
                energy(self.PINS, (1, 1), 1, forces)
            self.assertEqual(caught.exception.index, -1)


class Faults(unittest.TestCase):
    def check(self, answer, word, load=PULL, compliances=(1, 1)):
        self.assertEqual(elastic_fault(TWO_BARS, ONE_LINE, compliances, load, answer), word)

    def test_answers_that_are_right(self):
        for answer in (
            (5, ((6,), (-12,)), (6, 0, 0, 0, 0, 0)), (5, ((6,), (-12,)), (7, 3, -9, 1, 4, 5)),
            (10, ((12,), (-24,)), (0, 0, 0, -12, 0, 0)),
        ):
            self.check(answer, "")
        self.check((1, ((0,), (0,)), (5, 7, 9, 5, -3, 2)), "", (0,) * 6)
        self.check((2, ((6,), (-3,)), (6, 0, 0, 0, 0, 0)), "", PULL, (1, 4))

    def test_form(self):
        forces, move = ((6,), (-12,)), (6, 0, 0, 0, 0, 0)
        for answer in STRANGE + (
            0, (), (5, forces), (5, forces, move, 1), [5, forces, move], (0, forces, move), (-5, forces, move), (True, forces, move),
            (None, forces, move), (Spiteful(), forces, move), (5, forces[:1], move), (5, list(forces), move),
            (5, ((6,), (True,)), move), (5, ((6,), -12), move), (5, ((6, 0), (-12,)), move), (5, Spiteful(), move),
            (5, forces, move[:5]), (5, forces, move + (0,)), (5, forces, list(move)), (5, forces, (6, 0, 0, 0, 0, False)),
            (5, forces, Spiteful()), (5, forces, (Spiteful(),) * 6), ("borne", 5, forces),
        ):
            self.check(answer, "form")

    def test_bears_then_moves(self):
        move = (6, 0, 0, 0, 0, 0)
        self.check((5, ((6,), (-11,)), move), "bears")
        self.check((4, ((6,), (-12,)), move), "bears")
        self.check((5, ((-6,), (12,)), move), "bears")
        self.check((1, ((6,), (0,)), move), "moves")
        self.check((5, ((6,), (-12,)), (5, 0, 0, 0, 0, 0)), "moves")
        self.check((5, ((6,), (-12,)), (0,) * 6), "moves")
        self.check((5, ((6,), (-12,)), (6, 0, 0, 12, 0, 0)), "moves")
        self.check((5, ((6,), (-12,)), move), "moves", PULL, (1, 2))
        self.check((1, ((1,), (1,)), (0,) * 6), "bears")
