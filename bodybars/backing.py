"""Joints that back one another ([67])."""

from bodybars.errors import NotBars
from bodybars.frames import need_frame
from bodybars.losses import fall_by, packing_without
from bodybars.packings import count_of
from bodybars.woods import greatest_of


def backing(frame):
    """The pairs of joints that back one another, ascending."""
    need_frame(frame)
    packing = greatest_of(frame)
    many = len(frame[2])
    lefts = [packing_without(frame, packing, (joint,)) for joint in range(many)]
    falls = [count_of(packing) - count_of(left) for left in lefts]
    pairs = []
    for one in range(many):
        for other in range(one + 1, many):
            # With one lost, a joint without numbers in a greatest PACKING can go, too.
            if lefts[one][other] and more_fall(frame, lefts[one], one, other) > falls[other]:
                pairs.append((one, other))
    return tuple(pairs)


def more_fall(frame, left, one, other):
    """By how much RANK falls further with the other joint, left being a greatest PACKING without the one."""
    return count_of(left) - count_of(packing_without(frame, left, (one, other)))


def back_classes(frame):
    """The classes of the bars whose loss is harmless, in the order of their least bars; NotBars() with other joints."""
    need_frame(frame)
    if any(kind != "bar" for kind, one, other in frame[2]):
        raise NotBars()
    packing = greatest_of(frame)
    classes = {}
    for bar in range(len(frame[2])):
        if fall_by(frame, packing, (bar,)) == 0:
            classes[bar] = [bar]
    for one, other in backing(frame):
        if one in classes:
            classes[one].append(other)
            classes.pop(other, None)
    return tuple([tuple(bars) for bars in classes.values()])
