"""The finest, the coarsest and all PARTINGS with the least BOUND(K) ([43], [44])."""

from bodybars.basics import need_body, need_numbers
from bodybars.bounds import bound_by
from bodybars.frames import joint_sizes, need_frame
from bodybars.packings import count_of, need_packing
from bodybars.partingnumbers import all_partings
from bodybars.partings import lots_by_marks
from bodybars.pieces import pieces
from bodybars.woods import greatest_packing
from bodybars.woodways import hung_woods, path_in


def reached(frame, packing):
    """The joints that are reached by the PACKING, ascending."""
    need_packing(frame, packing)
    return reached_by(frame, packing, frame[0])


def reached_by(frame, packing, numbers):
    """The joints that are reached by ways with numbers below numbers, ascending."""
    woods = hung_woods(frame, packing, numbers)
    most = joint_sizes(frame)
    waiting = [joint for joint, row in enumerate(packing) if len(row) < most[joint]]
    found = {joint: True for joint in waiting}
    while waiting:
        kind, one, other = frame[2][waiting.pop()]
        # The way by a number that the joint has is the joint alone: just what path_in tells then.
        for hung in woods:
            for joint in path_in(hung, one, other) or ():
                if joint not in found:
                    found[joint] = True
                    waiting.append(joint)
    return tuple(sorted(found))


def finest_by(frame, packing, numbers):
    """The finest PARTING with the least BOUND(numbers), the PACKING being greatest with so many."""
    hanging = [frame[2][joint] for joint in reached_by(frame, packing, numbers)]
    return pieces(frame[1], tuple([(one, other) for kind, one, other in hanging]))


def coarsest_by(frame, packing, numbers):
    """The coarsest PARTING with the least BOUND(numbers), the PACKING being greatest with so many."""
    woods = hung_woods(frame, packing, numbers)
    ending = ending_joints(frame, woods)
    marks = []
    for body in range(frame[1]):
        held = [ahead for ahead in range(body) if not has_end(woods, ending, ahead, body)]
        marks.append(held[0] if held else body)
    return lots_by_marks(marks)


def has_end(woods, ending, one, other):
    """Whether a bar more between two bodies could get a number: by ways that end somewhere."""
    for hung in woods:
        way = path_in(hung, one, other)
        if way is None or any(joint in ending for joint in way):
            return True
    return False


def ending_joints(frame, woods):
    """The joints from which ways lead on to a joint that has no way by some number."""
    ending = {}
    many = -1
    while many < len(ending):
        many = len(ending)
        for joint, (kind, one, other) in enumerate(frame[2]):
            if has_end(woods, ending, one, other):
                ending[joint] = True
    return ending


def finest_parting(frame, *, numbers=None):
    """The finest PARTING with the least BOUND(K), K being numbers."""
    packing = greatest_packing(frame, numbers=numbers)
    return finest_by(frame, packing, need_numbers(frame, numbers))


def least_parting(frame, *, numbers=None):
    """The coarsest PARTING with the least BOUND(K), K being numbers."""
    packing = greatest_packing(frame, numbers=numbers)
    return coarsest_by(frame, packing, need_numbers(frame, numbers))


def least_partings(frame, *, numbers=None):
    """All PARTINGS with the least BOUND(K), ascending, K being numbers."""
    packing = greatest_packing(frame, numbers=numbers)
    many, least = need_numbers(frame, numbers), count_of(packing)
    return tuple([
        parting
        for parting in all_partings(frame[1])
        if bound_by(frame, parting, many) == least
    ])


def are_together(frame, one, other):
    """Whether two bodies lie in one lot of the coarsest least PARTING."""
    need_frame(frame)
    need_body(frame, one)
    need_body(frame, other)
    parting = least_parting(frame)
    return parting[one] == parting[other]
