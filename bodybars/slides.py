"""SLIDES: costs that change with the time, and what a joint takes as its cost grows ([75], [76])."""

from bodybars.basics import is_row, is_whole, need_joint
from bodybars.cheapest import greedy_packing, greedy_packings, least_price_by, order_by
from bodybars.costs import DEAREST, costs_fault, need_costs
from bodybars.errors import BadNumber, BadSlide, TooGreat
from bodybars.frames import joint_sizes, need_frame
from bodybars.rows import dot
from bodybars.woods import greatest_by
from bodybars.woodways import tally_by

STEEPEST = 1000
LATEST = 1000
MOST_SLIDING = 12


def slide_fault(frame, value):
    """The first word of what is wrong with a value that should be a SLIDE, "" of one."""
    need_frame(frame)
    if not is_row(value, 3):
        return "form"
    costs, rates, last = value
    if costs_fault(frame, costs) is not None:
        return "costs"
    if not is_row(rates, len(frame[2])) or not all(is_whole(rate, -STEEPEST, STEEPEST) for rate in rates):
        return "rates"
    return "" if is_whole(last, 0, LATEST) else "last"


def need_slide(frame, value):
    """The SLIDE; BadSlide(word) of any other value."""
    word = slide_fault(frame, value)
    if word != "":
        raise BadSlide(word)
    return value


def costs_at(slide, time):
    """What the joints cost at a time."""
    return [cost + time * rate for cost, rate in zip(slide[0], slide[1])]


def worth_at(frame, slide, time):
    """WORTH at a time: the least PRICE there."""
    need_slide(frame, slide)
    if not is_whole(time, 0, slide[2]):
        raise BadNumber(time)
    return least_price_by(frame, costs_at(slide, time))


def stretches(frame, slide):
    """The STRETCHES (FROM, TO, TALLY); TooGreat(12) of a frame with more joints."""
    need_slide(frame, slide)
    if len(frame[2]) > MOST_SLIDING:
        raise TooGreat(MOST_SLIDING)
    told, start = [], 0
    while start <= slide[2]:
        order = order_by(list(zip(costs_at(slide, start), slide[1])))
        tally = tally_by(greedy_packing(frame, order))
        end = last_cheapest(frame, slide, tally, start)
        told.append((start, end, tally))
        start = end + 1
    return tuple(told)


def last_cheapest(frame, slide, tally, start):
    """The last time at which a TALLY is cheapest that is so at the start."""
    low, high = start, slide[2]
    # The times at which it is cheapest have no gap: so each try halves what is left.
    while low < high:
        middle = (low + high + 1) // 2
        costs = costs_at(slide, middle)
        if dot(costs, tally) == least_price_by(frame, costs):
            low = middle
        else:
            high = middle - 1
    return low


def take_row(frame, costs, joint):
    """The TAKE ROW of a joint: pairs (C, NUMBER), a pair for each C with another TAKE than the one ahead."""
    need_costs(frame, costs)
    need_joint(frame, joint)
    order = [other for other in order_by(costs) if other != joint]
    # The TAKE only changes where the joint comes behind another one: at equal costs the lesser joint is ahead.
    ahead = [(1, 0)]
    for place, other in enumerate(order, start=1):
        ahead.append((costs[other] + (1 if other > joint else 0), place))
    told = []
    packings = greedy_packings(frame, order)
    for cost, place in ahead:
        if cost <= DEAREST:
            taken = take_beside(frame, order[:place], joint, packings[place])
            told = with_take(told, cost, taken)
    return tuple(told)


def take_beside(frame, ahead, joint, packing):
    """How many numbers a joint takes behind those that have theirs in the PACKING."""
    most = [size if other in ahead or other == joint else 0 for other, size in enumerate(joint_sizes(frame))]
    return len(greatest_by(frame, most, frame[0], packing)[joint])


def with_take(told, cost, taken):
    """The pairs with one more for a cost, not less than those ahead, if it tells another number."""
    kept = told[:-1] if told and told[-1][0] == cost else told
    if kept and kept[-1][1] == taken:
        return kept
    return kept + [(cost, taken)]
