"""MOTIONS AT a PLACEMENT, and HELD MOTIONS of a body ([150])."""

from bodybars.basics import are_integers, need_body
from bodybars.jointrows import matrix_by, matrix_of, unit_rows
from bodybars.placements import need_placement
from bodybars.rows import dot, null_by


def motions_at(frame, placement):
    """MOTIONS AT the PLACEMENT."""
    return null_by(matrix_of(frame, placement), frame[0] * frame[1])


def held_motions(frame, placement, body):
    """HELD MOTIONS of the body."""
    need_placement(frame, placement)
    return held_by(frame, placement, need_body(frame, body))


def held_by(frame, placement, body):
    """HELD MOTIONS of what is known to be a body, at what is known to be a PLACEMENT."""
    dimension, wide = frame[0], frame[0] * frame[1]
    # All motions that make the sum 0 with these rows, too, are 0 at the body.
    held = unit_rows(wide)[dimension * body:dimension * body + dimension]
    return null_by(held + matrix_by(frame, placement), wide)


def is_motion(frame, placement, value):
    """Whether value is a tuple of integers that is a MOTION."""
    matrix = matrix_of(frame, placement)
    return are_integers(value, frame[0] * frame[1]) and is_motion_by(matrix, value)


def is_motion_by(matrix, motion):
    """Whether each row of MATRIX makes the sum 0 with the motion."""
    return not any(dot(row, motion) != 0 for row in matrix)
