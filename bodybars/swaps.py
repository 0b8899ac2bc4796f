"""Greatest TALLIES, and joints that may be swapped between two of them ([46])."""

from bodybars.basics import need_joint
from bodybars.errors import NotGreatest, TooGreat
from bodybars.frames import joint_sizes, need_frame
from bodybars.tallies import need_tally, packing_by
from bodybars.woods import rank_of

MOST_TALLIES = 1000


def is_greatest_tally(frame, tally):
    """Whether a greatest PACKING has the TALLY."""
    need_tally(frame, tally)
    return is_greatest_by(frame, rank_of(frame), tally)


def is_greatest_by(frame, rank, tally):
    """Whether what is known to be a TALLY is met with just RANK numbers."""
    return sum(tally) == rank and packing_by(frame, tally) is not None


def swap_of(frame, tally, other, joint):
    """The least joint that may be swapped for joint, None if joint has no more numbers in tally than in other."""
    need_tally(frame, tally)
    need_tally(frame, other)
    need_joint(frame, joint)
    if not is_greatest_tally(frame, tally) or not is_greatest_tally(frame, other):
        raise NotGreatest()
    if tally[joint] <= other[joint]:
        return None
    for onto in range(len(tally)):
        if tally[onto] < other[onto] and may_swap(frame, tally, other, joint, onto):
            return onto
    return None


def may_swap(frame, tally, other, joint, onto):
    """Whether both TALLIES stay met if one passes a number from joint to onto, the other one back."""
    there = packing_by(frame, passed(tally, joint, onto))
    back = packing_by(frame, passed(other, onto, joint))
    return there is not None and back is not None


def passed(tally, joint, onto):
    """The TALLY with one less at joint and one more at onto."""
    counts = list(tally)
    counts[joint] -= 1
    counts[onto] += 1
    return tuple(counts)


def greatest_tallies(frame):
    """All greatest TALLIES, ascending; TooGreat(1000) if more than 1,000 TALLIES are to be tried."""
    need_frame(frame)
    tried = 1
    for size in joint_sizes(frame):
        tried = tried * (size + 1)
    if tried > MOST_TALLIES:
        raise TooGreat(MOST_TALLIES)
    rank = rank_of(frame)
    return tuple([tally for tally in all_tallies(frame) if is_greatest_by(frame, rank, tally)])


def all_tallies(frame):
    """All TALLIES of the FRAME, ascending."""
    tallies = [()]
    for size in joint_sizes(frame):
        tallies = [tally + (number,) for tally in tallies for number in range(size + 1)]
    return tallies
