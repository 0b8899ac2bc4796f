"""SPECIAL PAPERS: more motions than a general PLACEMENT leaves ([55])."""

from bodybars.basics import are_integers, is_row
from bodybars.jointrows import matrix_of
from bodybars.motions import is_motion_by
from bodybars.rows import null_by, rank_by
from bodybars.woods import free_of


def special_paper(frame, placement):
    """A SPECIAL PAPER for the PLACEMENT, None if it is general."""
    null = null_by(matrix_of(frame, placement), frame[0] * frame[1])
    many = motions_asked(frame)
    return null[:many] if len(null) >= many else None


def motions_asked(frame):
    """How many motions a SPECIAL PAPER has."""
    return free_of(frame) + frame[0] + 1


def special_paper_fault(frame, placement, paper):
    """The first word of what is wrong with a value that should be a SPECIAL PAPER, "" of one."""
    matrix = matrix_of(frame, placement)
    wide = frame[0] * frame[1]
    if not is_row(paper, motions_asked(frame)) or not all(are_integers(motion, wide) for motion in paper):
        return "form"
    if not all(is_motion_by(matrix, motion) for motion in paper):
        return "rows"
    return "" if rank_by(paper) == len(paper) else "rank"
