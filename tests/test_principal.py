"""[48]: the PRINCIPAL ROW."""

import unittest

from bodybars.errors import BadFrame
from bodybars.extremes import finest_parting, least_parting, least_partings
from bodybars.lattice import is_finer
from bodybars.principal import principal_row
from bodybars.woods import rank_of
from tests.helper import FRAMES, draw_frames, slow_bound, slow_partings


class Principal(unittest.TestCase):
    def test_examples(self):
        triangle = (3, 3, (("pin", 0, 1), ("pin", 1, 2), ("pin", 0, 2)))
        self.assertEqual(
            principal_row(triangle), ((2, (0, 0, 0), (0, 0, 0)), (4, (0, 0, 0), (0, 0, 0)), (6, (0, 1, 2), (0, 0, 0))),
        )
        self.assertEqual(principal_row((1, 1, ())), ((0, (0,), (0,)),))
        self.assertEqual(principal_row((3, 2, ())), ((0, (0, 1), (0, 1)),) * 3)

    def test_each_triple(self):
        for frame in FRAMES + tuple(draw_frames(59, 60, 8, 20)):
            row = principal_row(frame)
            self.assertEqual(len(row), frame[0])
            for numbers, (rank, finest, coarsest) in enumerate(row, start=1):
                self.assertEqual(rank, rank_of(frame, numbers=numbers))
                self.assertEqual(finest, finest_parting(frame, numbers=numbers))
                self.assertEqual(coarsest, least_parting(frame, numbers=numbers))

    def test_the_facts(self):
        for frame in [*(frame for frame in FRAMES if frame[1] <= 5), *draw_frames(60, 60, 5, 12)]:
            row = principal_row(frame)
            ranks = [0, *[rank for rank, _, _ in row]]
            steps = [behind - before for before, behind in zip(ranks, ranks[1:])]
            self.assertEqual(steps, sorted(steps, reverse=True))
            finest = [finest_parting(frame, numbers=0), *[told for _, told, _ in row]]
            for numbers, (rank, _, coarsest) in enumerate(row, start=1):
                bounds = [slow_bound(frame, parting, numbers) for parting in slow_partings(frame[1])]
                self.assertEqual(rank, min(bounds))
                self.assertLessEqual(frame[1] - len(set(coarsest)), steps[numbers - 1])
                self.assertLessEqual(steps[numbers - 1], frame[1] - len(set(finest[numbers - 1])))
                for parting in least_partings(frame, numbers=numbers):
                    for lesser in least_partings(frame, numbers=numbers - 1):
                        self.assertTrue(is_finer(parting, lesser))

    def test_no_frame(self):
        with self.assertRaises(BadFrame) as caught:
            principal_row((3, 9, ()))
        self.assertEqual((caught.exception.word, caught.exception.place), ("many", (1,)))
