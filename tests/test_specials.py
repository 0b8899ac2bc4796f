"""[55]: SPECIAL PAPERS."""

import unittest

from bodybars.errors import BadFrame, BadPlacement
from bodybars.placed import is_general, left_at
from bodybars.specials import special_paper, special_paper_fault
from bodybars.woods import free_of
from tests.helper import STRANGE, Spiteful, draw_close_placement, drawn, slow_matrix, slow_null, slow_rank

THREE_BARS = (3, 2, (("bar", 0, 1),) * 3)
POINT = (((0, 0), (1, 0)), ((0, 0), (0, 1)), ((0, 0), (1, 1)))
TRIANGLE = (((0, 0), (1, 0)), ((1, 0), (0, 1)), ((0, 1), (0, 0)))
WHOLE = ((1, 0, 0, 1, 0, 0), (0, 1, 0, 0, 1, 0), (0, 0, 1, 0, 0, 1))
TURN = (0, 0, 1, 0, 0, 0)


def joined_frames(seed, many):
    """FRAMES of the plane and of space without welds, with placements that are often special."""
    rng = drawn(seed)
    for _ in range(many):
        dimension, kinds = rng.choice(((3, ("bar", "pin")), (6, ("bar", "bar", "hinge"))))
        bodies = rng.randint(2, 3)
        pairs = [(one, other) for other in range(bodies) for one in range(other)]
        joints = tuple((rng.choice(kinds), *rng.choice(pairs)) for _ in range(rng.randint(3, dimension + 3)))
        frame = (dimension, bodies, joints)
        yield frame, draw_close_placement(rng, frame)


class Specials(unittest.TestCase):
    def test_an_example(self):
        self.assertEqual(
            special_paper(THREE_BARS, POINT),
            ((1, 0, 0, 1, 0, 0), (0, 1, 0, 0, 1, 0), (0, 0, 1, 0, 0, 0), (0, 0, 0, 0, 0, 1)),
        )
        self.assertIsNone(special_paper(THREE_BARS, TRIANGLE))

    def test_drawn_ones(self):
        seen = []
        for frame, placement in joined_frames(192, 100):
            paper = special_paper(frame, placement)
            general = left_at(frame, placement) == free_of(frame)
            self.assertIs(paper is None, general)
            self.assertIs(is_general(frame, placement), general)
            seen.append(general)
            if paper is not None:
                many, wide = free_of(frame) + frame[0] + 1, frame[0] * frame[1]
                self.assertEqual(paper, slow_null(slow_matrix(frame, placement), wide)[:many])
                self.assertEqual(len(paper), many)
                self.assertEqual(special_paper_fault(frame, placement, paper), "")
        self.assertGreater(min(seen.count(True), seen.count(False)), 20)

    def test_any_independent_motions_will_do(self):
        rng = drawn(193)
        for frame, placement in joined_frames(195, 60):
            wide = frame[0] * frame[1]
            matrix = slow_matrix(frame, placement)
            null = slow_null(matrix, wide)
            many = free_of(frame) + frame[0] + 1
            for _ in range(4):
                motions = tuple(
                    tuple(sum(k * row[place] for k, row in zip(parts, null)) for place in range(wide))
                    for parts in ([rng.randint(-3, 3) for _ in null] for _ in range(many))
                )
                word = "" if slow_rank(motions, wide) == many else "rank"
                self.assertEqual(special_paper_fault(frame, placement, motions), word)
                self.assertEqual(special_paper_fault(frame, placement, motions[1:]), "form")


class Faults(unittest.TestCase):
    def check(self, paper, word, placement=POINT):
        self.assertEqual(special_paper_fault(THREE_BARS, placement, paper), word)

    def test_each_word(self):
        good = WHOLE + (TURN,)
        self.check(good, "")
        self.check(good[::-1], "")
        self.check(WHOLE + ((1, 2, 3, 1, 2, -5),), "")
        for paper in STRANGE + (
            0, (), WHOLE, good + (TURN,), list(good), WHOLE + (None,), WHOLE + (TURN[:5],), WHOLE + (TURN + (0,),),
            WHOLE + (list(TURN),), WHOLE + ((0, 0, True, 0, 0, 0),), WHOLE + (Spiteful(),), WHOLE + ((0, 0, Spiteful(), 0, 0, 0),),
            (None,) * 4,
        ):
            self.check(paper, "form")
        self.check(WHOLE + ((1, 0, 0, 0, 0, 0),), "rows")
        self.check(good, "rows", TRIANGLE)
        self.check(((0, 0, 0, 0, 0, 1), (1, 0, 0, 0, 0, 0)) + WHOLE[:2], "rows")
        self.check(WHOLE + ((0,) * 6,), "rank")
        self.check(WHOLE + ((5, 7, -9, 5, 7, -9),), "rank")
        self.check(WHOLE + (WHOLE[0],), "rank", TRIANGLE)

    def test_the_first_of_several(self):
        self.check(((1, 0, 0, 0, 0, 0),) * 3 + (None,), "form")
        self.check(((1, 0, 0, 0, 0, 0),) * 4, "rows")

    def test_great_integers(self):
        self.check(tuple(tuple(10 ** 999 * number for number in row) for row in WHOLE + (TURN,)), "")

    def test_errors_in_their_order(self):
        for function in (special_paper, lambda frame, placement: special_paper_fault(frame, placement, None)):
            with self.assertRaises(BadFrame):
                function((3, 2, [1]), None)
            with self.assertRaises(BadPlacement) as caught:
                function(THREE_BARS, POINT[:1] + (None, None))
            self.assertEqual(caught.exception.number, 1)

    def test_frames_without_joints(self):
        self.assertIsNone(special_paper((6, 8, ()), ()))
        self.assertEqual(special_paper_fault((3, 1, ()), (), ()), "form")
        self.assertEqual(special_paper_fault((1, 1, ()), (), ((1,), (2,))), "rank")
