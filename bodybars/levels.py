"""Level PACKINGS ([47])."""

from bodybars.basics import join_marks
from bodybars.packings import need_packing
from bodybars.woodways import wood_of, wood_sizes


def is_level(frame, packing):
    """Whether the numbers of joints of the woods differ by at most one."""
    many = wood_sizes(frame, packing)
    return max(many) - min(many) <= 1


def leveled(frame, packing):
    """A level PACKING with the same TALLY."""
    need_packing(frame, packing)
    while not is_level(frame, packing):
        many = wood_sizes(frame, packing)
        packing = evened(frame, packing, many.index(max(many)), many.index(min(many)))
    return packing


def evened(frame, packing, high, low):
    """The PACKING with one joint moved from wood high to wood low, which has fewer joints.

    There is such a joint: the greater wood leaves fewer pieces, so it joins two pieces of the lesser one."""
    marks = list(range(frame[1]))
    for joint in wood_of(packing, low):
        join_marks(marks, frame[2][joint][1], frame[2][joint][2])
    joining = [joint for joint in wood_of(packing, high) if marks[frame[2][joint][1]] != marks[frame[2][joint][2]]]
    return moved(packing, joining[0], high, low)


def moved(packing, joint, high, low):
    """The PACKING in which the joint has low instead of high."""
    numbers = [number for number in packing[joint] if number != high]
    return packing[:joint] + (tuple(sorted([*numbers, low])),) + packing[joint + 1:]
