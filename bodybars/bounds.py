"""CROSSING and BOUND(K) of a PARTING ([12], [41])."""

from bodybars.basics import need_numbers
from bodybars.frames import joint_sizes, need_frame
from bodybars.partings import need_parting


def crossing_of(frame, parting):
    """CROSSING: the SIZES of the joints between unlike lots together."""
    need_frame(frame)
    need_parting(frame[1], parting)
    return crossing_by(frame, parting)


def crossing_by(frame, parting):
    """CROSSING of what is known to be a PARTING of the FRAME."""
    crossing = 0
    for (kind, one, other), size in zip(frame[2], joint_sizes(frame)):
        if parting[one] != parting[other]:
            crossing = crossing + size
    return crossing


def bound_by(frame, parting, numbers):
    """BOUND(numbers) of what is known to be a PARTING of the FRAME."""
    return crossing_by(frame, parting) + numbers * (len(parting) - max(parting) - 1)


def bound_of(frame, parting, *, numbers=None):
    """BOUND(K), K being numbers."""
    need_frame(frame)
    need_parting(frame[1], parting)
    return bound_by(frame, parting, need_numbers(frame, numbers))
