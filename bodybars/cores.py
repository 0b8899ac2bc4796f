"""The PLAIN CORE of a just stiff FRAME ([87])."""

from bodybars.justbars import need_just


def plain_core(frame):
    """The bodies that are left when those with just D bars are taken away; () if it is one."""
    dimension, many, joints = need_just(frame)
    left = list(range(many))
    going = least_bound(dimension, joints, left)
    # A single body has no bars: so it stays.
    while going is not None:
        left.remove(going)
        going = least_bound(dimension, joints, left)
    return () if len(left) == 1 else tuple(left)


def least_bound(dimension, joints, left):
    """The least body with just D bars to the others that are left, None without one."""
    for body in left:
        ends = [joint for joint in joints if body in joint[1:] and joint[1] in left and joint[2] in left]
        if len(ends) == dimension:
            return body
    return None
