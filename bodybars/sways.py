"""RELATIVE MOTIONS of two bodies, their SWAY, and STILL LOTS ([154])."""

from bodybars.basics import need_body
from bodybars.errors import TooMany
from bodybars.frames import MOST_JOINTS, need_frame
from bodybars.lines import minus
from bodybars.motions import motions_at
from bodybars.partings import lots_by_marks, lots_of, need_parting
from bodybars.rows import reduced_by


def at_body(frame, motion, body):
    """The D numbers that a motion has at a body."""
    return motion[frame[0] * body:frame[0] * body + frame[0]]


def relative_motions(frame, placement, one, other):
    """RELATIVE MOTIONS of both bodies; () if they are one."""
    motions = motions_at(frame, placement)
    need_body(frame, one)
    need_body(frame, other)
    return reduced_by([minus(at_body(frame, motion, other), at_body(frame, motion, one)) for motion in motions])


def sway(frame, placement, one, other):
    """SWAY of both bodies."""
    return len(relative_motions(frame, placement, one, other))


def still_lots(frame, placement):
    """The PARTING into STILL LOTS: of bodies that have the same numbers in all motions."""
    motions = motions_at(frame, placement)
    marks = [tuple([at_body(frame, motion, body) for motion in motions]) for body in range(frame[1])]
    return lots_by_marks(marks)


def welded(frame, parting):
    """The frame with welds more that make each lot one."""
    dimension, many, joints = need_frame(frame)
    need_parting(many, parting)
    welds = [("weld", lot[0], body) for lot in lots_of(parting) for body in lot[1:]]
    if len(joints) + len(welds) > MOST_JOINTS:
        raise TooMany(MOST_JOINTS)
    return (dimension, many, joints + tuple(welds))
