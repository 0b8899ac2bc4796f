"""LOSSES of joints, and their FALLS ([60], [62])."""

from bodybars.basics import is_ascending, is_whole
from bodybars.errors import BadLoss, BadNumber
from bodybars.frames import joint_sizes, need_frame
from bodybars.packings import count_of
from bodybars.partingnumbers import all_partings
from bodybars.woods import greatest_by, greatest_of


def is_loss(frame, value):
    """Whether value is a LOSS of the frame."""
    return is_ascending(value, len(frame[2]))


def need_loss(frame, loss):
    """The LOSS; BadLoss(loss) of any other value."""
    need_frame(frame)
    if not is_loss(frame, loss):
        raise BadLoss(loss)
    return loss


def frame_without(frame, loss):
    """The FRAME without the LOSS."""
    need_loss(frame, loss)
    return without_by(frame, loss)


def without_by(frame, loss):
    """The FRAME without these joints."""
    left = [joint for place, joint in enumerate(frame[2]) if place not in loss]
    return (frame[0], frame[1], tuple(left))


def packing_without(frame, packing, loss):
    """A PACKING that is greatest of those without the LOSS, made of one of the FRAME."""
    most = [0 if joint in loss else size for joint, size in enumerate(joint_sizes(frame))]
    left = tuple([() if joint in loss else numbers for joint, numbers in enumerate(packing)])
    return greatest_by(frame, most, frame[0], left)


def fall_by(frame, packing, loss):
    """FALL of the LOSS, the PACKING being a greatest one."""
    return count_of(packing) - count_of(packing_without(frame, packing, loss))


def fall(frame, loss):
    """FALL of the LOSS."""
    need_loss(frame, loss)
    return fall_by(frame, greatest_of(frame), loss)


def falls(frame):
    """For each joint FALL of its loss."""
    need_frame(frame)
    packing = greatest_of(frame)
    return tuple([fall_by(frame, packing, (joint,)) for joint in range(len(frame[2]))])


def needed_joints(frame):
    """The joints whose loss loosens, ascending."""
    return tuple([joint for joint, number in enumerate(falls(frame)) if number > 0])


def parting_slacks(frame):
    """For each PARTING its SLACK, and for each joint its SIZE if it lies between unlike lots, otherwise 0."""
    dimension, many, joints = frame
    sized = [(one, other, size) for (kind, one, other), size in zip(joints, joint_sizes(frame))]
    rank = count_of(greatest_of(frame))
    told = []
    for parting in all_partings(many):
        crossing = [size if parting[one] != parting[other] else 0 for one, other, size in sized]
        told.append((sum(crossing) + dimension * (many - max(parting) - 1) - rank, crossing))
    return told


def top_sum(numbers, many):
    """The sum of so many of the greatest numbers."""
    return sum(sorted(numbers, reverse=True)[:many])


def worst_fall(frame, many):
    """The greatest FALL by the loss of so many joints, and the least LOSS of so many with it."""
    need_frame(frame)
    if not is_whole(many, 0, len(frame[2])):
        raise BadNumber(many)
    told = [(top_sum(crossing, many) - below, crossing) for below, crossing in parting_slacks(frame)]
    worst = max([gain for gain, crossing in told])
    return (worst, least_worst([crossing for gain, crossing in told if gain == worst], many))


def least_worst(rows, many):
    """The least ascending tuple of so many places at which one of the rows has its greatest sum of so many numbers."""
    taken = []
    for place in range(len(rows[0])):
        if len(taken) == many:
            break
        kept = [row for row in rows if may_take(row, taken, place, many)]
        if kept:
            rows = kept
            taken.append(place)
    return tuple(taken)


def may_take(row, taken, place, many):
    """Whether the row can still get its greatest sum with the taken places, this one and some behind it."""
    there = sum([row[at] for at in taken]) + row[place]
    return there + top_sum(row[place + 1:], many - len(taken) - 1) == top_sum(row, many)
