"""Stiff LOTS of bodies, the FRAME OF LOTS, and MARKS ([80] to [82], [88])."""

from bodybars.extremes import least_parting
from bodybars.frames import joint_sizes, own_frame
from bodybars.partings import lots_of
from bodybars.woods import free_of


def is_stiff(frame, bodies):
    """Whether the LOT of bodies is stiff by its own joints."""
    return free_of(own_frame(frame, bodies)) == 0


def stiff_lots(frame):
    """The PARTING into greatest stiff LOTS."""
    # It is a least one, and each least one is finer ([81]).
    return least_parting(frame)


def lots_frame(frame):
    """The FRAME OF LOTS: each greatest stiff LOT is one body."""
    return laid_by(frame, stiff_lots(frame))


def laid_by(frame, parting):
    """The FRAME in which each lot of the PARTING is one body; joints within lots are left out."""
    joints = [(kind, parting[one], parting[other]) for kind, one, other in frame[2]]
    left = tuple([(kind, min(one, other), max(one, other)) for kind, one, other in joints if one != other])
    return (frame[0], max(parting) + 1, left)


def lot_marks(frame):
    """The MARKS (BODIES, SIZES, SPARE) of each greatest stiff LOT."""
    told = []
    for lot in lots_of(stiff_lots(frame)):
        total = sum(joint_sizes(own_frame(frame, lot)))
        told.append((lot, total, total - frame[0] * (len(lot) - 1)))
    return tuple(told)
