"""RANK AT and LEFT at a PLACEMENT, and whether it is general ([51])."""

from bodybars.jointrows import matrix_of
from bodybars.rows import rank_by
from bodybars.woods import rank_of


def rank_at(frame, placement):
    """RANK AT the PLACEMENT."""
    return rank_by(matrix_of(frame, placement))


def left_at(frame, placement):
    """LEFT there: the motions beside those of the whole."""
    rank = rank_at(frame, placement)
    return frame[0] * (frame[1] - 1) - rank


def is_general(frame, placement):
    """Whether the PLACEMENT is general."""
    return rank_at(frame, placement) == rank_of(frame)
