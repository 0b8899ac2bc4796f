"""Lots of joints that are free of stress, CIRCLES, and SPARINGS ([65], [66])."""

from bodybars.errors import BadOrder
from bodybars.frames import joint_sizes, need_frame
from bodybars.losses import is_loss, need_loss, packing_without
from bodybars.packings import count_of
from bodybars.renamings import is_order
from bodybars.woods import bare_packing, greatest_by, greatest_of


def surplus_by(frame, lot):
    """SURPLUS of what is known to be a lot of joints: 0 if it is free of stress."""
    most = [size if joint in lot else 0 for joint, size in enumerate(joint_sizes(frame))]
    return sum(most) - count_of(greatest_by(frame, most, frame[0], bare_packing(frame)))


def surplus(frame, lot):
    """SURPLUS of the lot."""
    return surplus_by(frame, need_loss(frame, lot))


def without(lot, joint):
    """The lot without a joint."""
    return tuple([other for other in lot if other != joint])


def circle_in(frame, lot):
    """The CIRCLE that is left of the lot, its greatest joints asked first; None if it is free of stress."""
    need_loss(frame, lot)
    if surplus_by(frame, lot) == 0:
        return None
    left = lot
    for joint in lot[::-1]:
        if surplus_by(frame, without(left, joint)) > 0:
            left = without(left, joint)
    return left


def is_circle(frame, lot):
    """Whether lot is a CIRCLE."""
    need_frame(frame)
    if not is_loss(frame, lot) or surplus_by(frame, lot) == 0:
        return False
    return not any(surplus_by(frame, without(lot, joint)) > 0 for joint in lot)


def sparing(frame, order):
    """The joints that go by the SPARING in this order, ascending."""
    need_frame(frame)
    if not is_order(order, len(frame[2])):
        raise BadOrder(order)
    return spared_by(frame, order)


def spared_by(frame, order):
    """The same of what are known to be a FRAME and an order of its joints."""
    packing, gone = greatest_of(frame), []
    for joint in order:
        left = packing_without(frame, packing, [*gone, joint])
        if count_of(left) == count_of(packing):
            packing = left
            gone.append(joint)
    return tuple(sorted(gone))
