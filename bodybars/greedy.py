"""PACKINGS that are made by an order of the joints, each of which takes what it can ([71])."""

from bodybars.frames import joint_sizes
from bodybars.woods import bare_packing, greatest_by


def order_by(marks):
    """The joints by their marks, ascending; of equal marks the lesser joint first."""
    marked = [(mark, joint) for joint, mark in enumerate(marks)]
    return [joint for mark, joint in sorted(marked)]


def greedy_packing(frame, order):
    """The PACKING in which each joint of the order has as many numbers as go with those of the joints ahead of it."""
    return greedy_packings(frame, order)[-1]


def greedy_packings(frame, order):
    """That PACKING for each beginning of the order, () first."""
    full = joint_sizes(frame)
    most = [0] * len(full)
    packings = [bare_packing(frame)]
    for joint in order:
        # A PACKING that grows takes no joint any number: so the joints ahead, which have all they can, keep theirs.
        most[joint] = full[joint]
        packings.append(greatest_by(frame, most, frame[0], packings[-1]))
    return packings
