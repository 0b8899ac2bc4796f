"""SLACK, the cheapest LOSS that loosens, and how few numbers a joint may have ([61], [62], [64])."""

from bodybars.basics import is_whole, need_joint
from bodybars.bounds import bound_of
from bodybars.costs import need_costs
from bodybars.errors import BadNumber
from bodybars.frames import joint_sizes, need_frame
from bodybars.losses import fall_by, parting_slacks
from bodybars.packings import count_of
from bodybars.woods import greatest_by, greatest_of


def slack(frame, parting):
    """SLACK of the PARTING."""
    bound = bound_of(frame, parting)
    return bound - count_of(greatest_of(frame))


def least_loss(frame, costs):
    """The least cost of a LOSS that loosens, and the least such LOSS of this cost; None without joints."""
    need_costs(frame, costs)
    return least_loss_by(frame, costs)


def least_loss_by(frame, costs):
    """The same of what are known to be a FRAME and COSTS."""
    best = None
    for floor, due, crossing in loosening_ways(frame, costs):
        if best is not None and floor > best[0]:
            break
        table = cover_table(crossing, costs, due)
        found = (table[0][due], least_cover(table, crossing, costs, due))
        best = found if best is None else min(best, found)
    return best


def loosening_ways(frame, costs):
    """For each PARTING by which joints can loosen the frame: a bound of their cost from below, how much of their
    SIZES must go, and the SIZES between unlike lots; by the bound, ascending."""
    # Costs for each unit of SIZE are compared as whole numbers: 30 is a multiple of each SIZE.
    order = sorted([(30 * cost // size, joint) for joint, (cost, size) in enumerate(zip(costs, joint_sizes(frame)))])
    ways = []
    for below, crossing in parting_slacks(frame):
        if sum(crossing) > below:
            ways.append((floor_of(order, crossing, below + 1), below + 1, crossing))
    return sorted(ways)


def floor_of(order, crossing, due):
    """The least cost of so much SIZE if joints could be lost in part."""
    floor = 0
    for rate, joint in order:
        part = min(crossing[joint], due)
        floor, due = floor + rate * part, due - part
    return -(-floor // 30)


def cover_table(crossing, costs, due):
    """For each joint, and at the end for none, the rows of least costs: of so much SIZE by it and those behind it.

    None stands where they haven't so much SIZE."""
    table = [[0] + [None] * due]
    for joint in range(len(crossing) - 1, -1, -1):
        table.append(covered(table[-1], crossing[joint], costs[joint]))
    return table[::-1]


def covered(row, size, cost):
    """The row of least costs with one joint more."""
    if size == 0:
        return row
    told = []
    for due, ahead in enumerate(row):
        rest = row[max(0, due - size)]
        with_it = None if rest is None else rest + cost
        told.append(with_it if ahead is None or with_it is not None and with_it < ahead else ahead)
    return told


def least_cover(table, crossing, costs, due):
    """The least tuple of joints that has so much SIZE at the least cost."""
    left, taken = table[0][due], []
    for joint, size in enumerate(crossing):
        rest = table[joint + 1][max(0, due - size)]
        if rest is not None and rest + costs[joint] == left:
            left, due = rest, max(0, due - size)
            taken.append(joint)
    return tuple(taken)


def joint_with(frame, joint, many):
    """A greatest PACKING in which the joint has so many numbers."""
    need_frame(frame)
    need_joint(frame, joint)
    most = list(joint_sizes(frame))
    if not is_whole(many, fall_by(frame, greatest_of(frame), (joint,)), most[joint]):
        raise BadNumber(many)
    # A PACKING that grows takes no joint any of its numbers, and gives none more than its most.
    most[joint] = many
    begun = [tuple(range(many)) if place == joint else () for place in range(len(frame[2]))]
    return greatest_by(frame, most, frame[0], tuple(begun))
