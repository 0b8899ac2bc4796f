"""FRAMES, their faults, and the own frames of some of their bodies ([10], [30])."""

from bodybars.basics import is_ascending, is_row, is_whole
from bodybars.errors import BadBodies, BadFrame
from bodybars.kinds import is_dimension, is_kind, size_of

MOST_JOINTS = 40


def frame_fault(value):
    """The fault of a value that should be a FRAME, None of a FRAME."""
    if not is_row(value, 3):
        return ("frame", ())
    dimension, many, joints = value
    if not is_dimension(dimension):
        return ("dimension", (0,))
    if not is_whole(many, 1, 8):
        return ("many", (1,))
    if type(joints) is not tuple or len(joints) > MOST_JOINTS:
        return ("joints", (2,))
    for at, joint in enumerate(joints):
        fault = joint_fault(dimension, many, joint)
        if fault is not None:
            word, place = fault
            return (word, (2, at) + place)
    return None


def joint_fault(dimension, many, joint):
    """The fault of one joint, its place within this joint; None without one."""
    if not is_row(joint, 3):
        return ("joint", ())
    kind, one, other = joint
    if not is_kind(dimension, kind):
        return ("kind", (0,))
    if not is_whole(one, 0, many - 2):
        return ("body", (1,))
    if not is_whole(other, one + 1, many - 1):
        return ("body", (2,))
    return None


def is_frame(value):
    """Whether value is a FRAME."""
    return frame_fault(value) is None


def need_frame(value):
    """The FRAME; BadFrame of any other value."""
    fault = frame_fault(value)
    if fault is not None:
        raise BadFrame(fault[0], fault[1])
    return value


def sizes(frame):
    """The SIZES of the joints."""
    need_frame(frame)
    return joint_sizes(frame)


def joint_sizes(frame):
    """The SIZES of the joints of what is known to be a FRAME."""
    return tuple([size_of(frame[0], joint[0]) for joint in frame[2]])


def own_frame(frame, bodies):
    """The frame of these bodies alone and of the joints between them."""
    dimension, many, joints = need_frame(frame)
    if not is_ascending(bodies, many) or len(bodies) == 0:
        raise BadBodies(bodies)
    anew = {body: at for at, body in enumerate(bodies)}
    kept = [joint for joint in joints if joint[1] in anew and joint[2] in anew]
    own = tuple([(kind, anew[one], anew[other]) for kind, one, other in kept])
    return (dimension, len(bodies), own)
