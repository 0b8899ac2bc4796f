"""COSTS of joints, PRICES of TALLIES, LEVELS and cheap parts ([71])."""

from bodybars.basics import is_row, is_whole
from bodybars.errors import BadCosts, BadNumber
from bodybars.frames import need_frame
from bodybars.rows import dot
from bodybars.tallies import need_tally

DEAREST = 10 ** 6


def costs_fault(frame, value):
    """The fault of a value that should be COSTS of the frame, None of COSTS."""
    need_frame(frame)
    if not is_row(value, len(frame[2])):
        return -1
    for place, number in enumerate(value):
        if not is_whole(number, 1, DEAREST):
            return place
    return None


def need_costs(frame, value):
    """The COSTS; BadCosts(place) of any other value."""
    fault = costs_fault(frame, value)
    if fault is not None:
        raise BadCosts(fault)
    return value


def price_of(frame, costs, tally):
    """The PRICE of the TALLY."""
    need_costs(frame, costs)
    need_tally(frame, tally)
    return dot(costs, tally)


def levels_of(frame, costs):
    """The LEVELS: the unlike COSTS, ascending."""
    need_costs(frame, costs)
    return tuple(sorted(set(costs)))


def cheap_part(frame, costs, cost):
    """The FRAME of the joints that cost at most so much."""
    need_costs(frame, costs)
    if not is_whole(cost, 1, DEAREST):
        raise BadNumber(cost)
    cheap = [joint for joint, number in zip(frame[2], costs) if number <= cost]
    return (frame[0], frame[1], tuple(cheap))
