"""[97]: SQUARE lots, FRAMES laid together, PURE as a product."""

import itertools
import unittest

from bodybars.errors import BadBodies, BadFrame, BadPlacement, NotSquare
from bodybars.factors import factor_sign, factored, laid_frame, laid_placement, own_placement, square_lots
from bodybars.frames import own_frame
from bodybars.pures import pure
from tests.helper import SIZE, STRANGE, Spiteful, draw_frames, draw_placement, drawn, lots_from, slow_pieces
from tests.squarehelp import NOT_SQUARE, draw_square, placed_squares, slow_pure, slow_sign

FRAME = (3, 4, (("pin", 0, 2), ("bar", 1, 3), ("bar", 1, 2), ("pin", 1, 3), ("pin", 2, 3), ("bar", 0, 2)))
PLACES = ((3, 4), ((1, 2), (3, 5)), ((0, 2), (3, 1)), (4, 1), (6, 0), ((2, 2), (7, 3)))


def all_lots(many):
    return [lot for size in range(1, many + 1) for lot in itertools.combinations(range(many), size)]


def is_within(joint, lot):
    return joint[1] in lot and joint[2] in lot


def slow_own(frame, lot):
    joints = [(kind, lot.index(a), lot.index(b)) for kind, a, b in frame[2] if a in lot and b in lot]
    return (frame[0], len(lot), tuple(joints))


def slow_laid(frame, lot):
    marks = lots_from(["lot" if body in lot else body for body in range(frame[1])])
    joints = [(kind, *sorted((marks[a], marks[b]))) for kind, a, b in frame[2] if marks[a] != marks[b]]
    return (frame[0], frame[1] - len(lot) + 1, tuple(joints))


def is_square(frame):
    return sum(SIZE[frame[0]][joint[0]] for joint in frame[2]) == frame[0] * (frame[1] - 1)


def slow_factor_sign(frame, lot):
    """SIGN, by its words."""
    rows = [at for at, joint in enumerate(frame[2]) for _ in range(SIZE[frame[0]][joint[0]])]
    numbers = list(range(len(rows)))
    first = [row for row in numbers if is_within(frame[2][rows[row]], lot)]
    sign = slow_sign(first + [row for row in numbers if row not in first])
    rest = [body for body in range(frame[1]) if body not in lot]
    sign *= slow_sign([*lot[1:], *rest]) ** frame[0]
    for kind, a, b in frame[2]:
        if b in lot and a not in lot and a > min(lot):
            sign *= (-1) ** SIZE[frame[0]][kind]
    return sign


class Lots(unittest.TestCase):
    def test_square_lots(self):
        many = set()
        for frame in [FRAME, *draw_frames(630, 30, 6, 12)]:
            due = [lot for lot in all_lots(frame[1]) if 2 <= len(lot) < frame[1] and is_square(slow_own(frame, lot))]
            self.assertEqual(list(square_lots(frame)), sorted(due))
            many.add(len(due))
        self.assertGreater(len(many), 3)
        self.assertEqual(square_lots(FRAME), ((0, 2), (1, 2, 3), (1, 3)))
        self.assertEqual(square_lots((3, 2, (("weld", 0, 1),))), ())
        self.assertEqual(square_lots((3, 1, ())), ())
        # By their numbers: a longer lot may come ahead of a shorter one.
        chain = (1, 4, (("bar", 0, 1), ("bar", 1, 2), ("bar", 2, 3)))
        self.assertEqual(square_lots(chain), ((0, 1), (0, 1, 2), (1, 2), (1, 2, 3), (2, 3)))

    def test_frames_and_placements_laid_together(self):
        self.assertEqual(laid_frame(FRAME, (1, 3)), (3, 3, (("pin", 0, 2), ("bar", 1, 2), ("pin", 1, 2), ("bar", 0, 2))))
        self.assertEqual(laid_placement(FRAME, PLACES, (1, 3)), (PLACES[0], PLACES[2], PLACES[4], PLACES[5]))
        self.assertEqual(own_placement(FRAME, PLACES, (1, 3)), (PLACES[1], PLACES[3]))
        rng = drawn(631)
        for frame in [FRAME, *draw_frames(632, 20, 5, 9)]:
            placement = draw_placement(rng, frame)
            for lot in all_lots(frame[1]):
                self.assertEqual(laid_frame(frame, lot), slow_laid(frame, lot))
                inside = [is_within(joint, lot) for joint in frame[2]]
                own = tuple(thing for thing, its in zip(placement, inside) if its)
                self.assertEqual(own_placement(frame, placement, lot), own)
                laid = tuple(thing for thing, its in zip(placement, inside) if not its)
                self.assertEqual(laid_placement(frame, placement, lot), laid)
                self.assertEqual(len(laid_frame(frame, lot)[2]), len(laid))


class Factors(unittest.TestCase):
    def test_the_product_is_pure(self):
        seen = set()
        for frame, placement in placed_squares(635, 60, {1: 6, 3: 5, 6: 4}):
            for lot in [*square_lots(frame), (frame[1] - 1,), tuple(range(frame[1]))]:
                sign, own, laid = factored(frame, placement, lot)
                self.assertEqual(factor_sign(frame, lot), sign)
                self.assertEqual(sign, slow_factor_sign(frame, lot))
                self.assertEqual(own, slow_pure(slow_own(frame, lot), own_placement(frame, placement, lot)))
                self.assertEqual(laid, slow_pure(slow_laid(frame, lot), laid_placement(frame, placement, lot)))
                self.assertEqual(sign * own * laid, pure(frame, placement))
                if 1 < len(lot) < frame[1] and own * laid:
                    seen.add((frame[0], sign))
        self.assertEqual(len(seen), 6)

    def test_lots_that_are_square_by_design(self):
        # A lot of each place in a frame, whose joints are mixed with the others.
        rng = drawn(636)
        for dimension, many in ((1, 5), (3, 4), (6, 3)):
            for _ in range(8):
                own = draw_square(rng, dimension, 2)
                lot = sorted(rng.sample(range(many), 2))
                inner = [(kind, lot[a], lot[b]) for kind, a, b in own[2]]
                outer = []
                for joint in draw_square(rng, dimension, many - 1)[2]:
                    gone = rng.choice(lot)
                    bodies = [body for body in range(many) if body != gone]
                    outer.append((joint[0], bodies[joint[1]], bodies[joint[2]]))
                joints = inner + [joint for joint in outer if not is_within(joint, lot)]
                rng.shuffle(joints)
                frame = (dimension, many, tuple(joints))
                if is_square(frame):
                    placement = draw_placement(rng, frame)
                    sign, one, other = factored(frame, placement, tuple(lot))
                    self.assertEqual(sign * one * other, pure(frame, placement))
                    self.assertEqual(sign, slow_factor_sign(frame, tuple(lot)))

    def test_pieces_are_told_apart(self):
        frame = (1, 3, (("bar", 0, 1), ("bar", 0, 1)))
        self.assertEqual(len(set(slow_pieces(3, [(0, 1)]))), 2)
        self.assertEqual(factored(frame, ((), ()), (2,)), (factor_sign(frame, (2,)), 1, pure(frame, ((), ()))))

    def test_errors_in_their_order(self):
        for call in (square_lots, lambda frame: laid_frame(frame, None), lambda frame: factor_sign(frame, None)):
            with self.assertRaises(BadFrame):
                call((3, 2, [1]))
        placed = (laid_placement, own_placement, factored)
        for call in placed:
            with self.assertRaises(BadFrame):
                call((3, 2, [1]), None, None)
            for placement, fault in ((None, -1), ((PLACES[0], Spiteful(), None, None, None, None), 1)):
                with self.assertRaises(BadPlacement) as caught:
                    call(FRAME, placement, None)
                self.assertEqual(caught.exception.number, fault)
        for bodies in STRANGE + (0, (), (1, 0), (0, 0), (4,), (-1,), [0], (0, True), (None,), (0, 10 ** 999)):
            for call in (laid_frame, factor_sign, *[lambda f, b, call=call: call(f, PLACES, b) for call in placed]):
                with self.assertRaises(BadBodies) as caught:
                    call(FRAME, bodies)
                self.assertIs(caught.exception.value, bodies)
        for lot in ((0, 1), (0, 1, 2), (2, 3)):
            own = own_frame(FRAME, lot)
            for call in (factor_sign, lambda f, b: factored(f, PLACES, b)):
                with self.assertRaises(NotSquare) as caught:
                    call(FRAME, lot)
                rows = sum(SIZE[3][joint[0]] for joint in own[2])
                self.assertEqual((caught.exception.rows, caught.exception.due), (rows, 3 * (len(lot) - 1)))
        for frame, rows, due in NOT_SQUARE:
            for call in (factor_sign, lambda f, b: factored(f, draw_placement(drawn(1), f), b)):
                if rows != due:
                    with self.assertRaises(NotSquare) as caught:
                        call(frame, None)
                    self.assertEqual((caught.exception.rows, caught.exception.due), (rows, due))
            with self.assertRaises(BadPlacement):
                factored(frame, None, None)
