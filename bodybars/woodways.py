"""Woods of a PACKING, the ways in them, and TALLIES ([40])."""

from bodybars.basics import is_whole, need_joint
from bodybars.errors import BadNumber
from bodybars.packings import need_packing


def wood_of(packing, number):
    """Wood NUMBER: the joints that have the number, ascending."""
    return tuple([joint for joint, numbers in enumerate(packing) if number in numbers])


def hung_wood(frame, wood):
    """For each body (root, depth, body above, joint to it), each piece of the wood hung up at its least body."""
    beside = [[] for body in range(frame[1])]
    for joint in wood:
        kind, one, other = frame[2][joint]
        beside[one].append((other, joint))
        beside[other].append((one, joint))
    hung = [None] * frame[1]
    for root in range(frame[1]):
        if hung[root] is None:
            hung[root] = (root, 0, root, None)
            hang_below(beside, hung, root)
    return hung


def hang_below(beside, hung, root):
    """Hangs up all bodies that the wood joins to the root."""
    waiting = [root]
    while waiting:
        body = waiting.pop()
        for below, joint in beside[body]:
            if hung[below] is None:
                hung[below] = (root, hung[body][1] + 1, body, joint)
                waiting.append(below)


def hung_woods(frame, packing, numbers):
    """The woods of the numbers below numbers, hung up."""
    return [hung_wood(frame, wood_of(packing, number)) for number in range(numbers)]


def path_in(hung, one, other):
    """The joints of a wood that lead from one body to another one, in order; None if it doesn't."""
    if hung[one][0] != hung[other][0]:
        return None
    ahead, behind = [], []
    while one != other:
        if hung[one][1] >= hung[other][1]:
            ahead.append(hung[one][3])
            one = hung[one][2]
        else:
            behind.append(hung[other][3])
            other = hung[other][2]
    return tuple(ahead + behind[::-1])


def way_by(frame, packing, joint, number):
    """The way of a joint by a number, None if there is none."""
    if number in packing[joint]:
        return (joint,)
    kind, one, other = frame[2][joint]
    return path_in(hung_wood(frame, wood_of(packing, number)), one, other)


def way_in(frame, packing, joint, number):
    """The way of a joint by a number, None if there is none."""
    need_packing(frame, packing)
    need_joint(frame, joint)
    if not is_whole(number, 0, frame[0] - 1):
        raise BadNumber(number)
    return way_by(frame, packing, joint, number)


def tally_of(frame, packing):
    """The TALLY: how many numbers each joint has."""
    need_packing(frame, packing)
    return tally_by(packing)


def tally_by(packing):
    """The TALLY of what is known to be a PACKING."""
    return tuple([len(numbers) for numbers in packing])


def wood_sizes(frame, packing):
    """For each number from 0 to D - 1 how many joints have it."""
    need_packing(frame, packing)
    return tuple([len(wood_of(packing, number)) for number in range(frame[0])])
