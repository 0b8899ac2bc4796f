"""The greedy TALLY, cheapest TALLIES and swaps that make a TALLY cheaper ([71], [72], [77])."""

from bodybars.costs import need_costs
from bodybars.errors import NotGreatest
from bodybars.extremes import ending_joints
from bodybars.frames import joint_sizes
from bodybars.packings import count_of
from bodybars.rows import dot
from bodybars.tallies import need_tally, packing_by
from bodybars.woods import bare_packing, greatest_by, greatest_of
from bodybars.woodways import hung_woods, tally_by


def order_by(marks):
    """The joints by their marks, ascending; of equal marks the lesser joint first."""
    marked = [(mark, joint) for joint, mark in enumerate(marks)]
    return [joint for mark, joint in sorted(marked)]


def greedy_packing(frame, order):
    """The PACKING in which each joint of the order has as many numbers as go with those of the joints ahead of it."""
    return greedy_packings(frame, order)[-1]


def greedy_packings(frame, order):
    """That PACKING for each beginning of the order, () first."""
    full = joint_sizes(frame)
    most = [0] * len(full)
    packings = [bare_packing(frame)]
    for joint in order:
        # A PACKING that grows takes no joint any number: so the joints ahead, which have all they can, keep theirs.
        most[joint] = full[joint]
        packings.append(greatest_by(frame, most, frame[0], packings[-1]))
    return packings


def greedy_by(frame, costs):
    """A PACKING with the greedy TALLY of what are known to be a FRAME and numbers that its joints cost."""
    return greedy_packing(frame, order_by(costs))


def least_price_by(frame, costs):
    """The PRICE of the greedy TALLY."""
    return dot(costs, tally_by(greedy_by(frame, costs)))


def greedy_tally(frame, costs):
    """The greedy TALLY."""
    need_costs(frame, costs)
    return tally_by(greedy_by(frame, costs))


def least_price(frame, costs):
    """The PRICE of the cheapest TALLIES."""
    need_costs(frame, costs)
    return least_price_by(frame, costs)


def is_cheapest(frame, costs, tally):
    """Whether the TALLY is cheapest."""
    need_costs(frame, costs)
    need_tally(frame, tally)
    greedy = tally_by(greedy_by(frame, costs))
    if sum(tally) != sum(greedy) or dot(costs, tally) != dot(costs, greedy):
        return False
    return packing_by(frame, tally) is not None


def better_swap(frame, costs, tally):
    """The first pair (I, K) of joints such that one number less at I and one more at K cost less and are met."""
    need_costs(frame, costs)
    need_tally(frame, tally)
    packing = packing_by(frame, tally)
    if packing is None or sum(tally) < count_of(greatest_of(frame)):
        raise NotGreatest()
    for joint, number in enumerate(tally):
        if number > 0:
            onto = cheaper_taker(frame, costs, packing, joint)
            if onto is not None:
                return (joint, onto)
    return None


def cheaper_taker(frame, costs, packing, joint):
    """The least joint of lesser COST that can take a number more if joint gives one up; None without one."""
    left = packing[:joint] + (packing[joint][1:],) + packing[joint + 1:]
    ending = ending_joints(frame, hung_woods(frame, left, frame[0]))
    for onto, size in enumerate(joint_sizes(frame)):
        # An EXCHANGE that begins with a joint is just a row of ways that ends somewhere.
        if costs[onto] < costs[joint] and len(left[onto]) < size and onto in ending:
            return onto
    return None


def dearest_used(frame, costs):
    """The dearest cost: the greatest COST of a joint that has a number in the greedy TALLY; None if none has."""
    tally = greedy_tally(frame, costs)
    return max([cost for cost, number in zip(costs, tally) if number > 0], default=None)
