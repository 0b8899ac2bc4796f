"""Greatest PACKINGS, RANK and FREE ([11], [13], [41])."""

from bodybars.basics import join_marks, need_numbers
from bodybars.exchanges import done, shortest_exchange
from bodybars.frames import joint_sizes, need_frame
from bodybars.packings import bare_woods, count_of, need_packing


def greatest_by(frame, most, numbers, packing):
    """The PACKING grown with numbers below numbers until no EXCHANGE is left.

    A joint is full with most[joint] numbers. No joint ends with fewer numbers than it began with."""
    packing = filled(frame, most, numbers, packing)
    exchange = shortest_exchange(frame, most, numbers, packing)
    while exchange is not None:
        packing = done(packing, exchange)
        exchange = shortest_exchange(frame, most, numbers, packing)
    return packing


def filled(frame, most, numbers, packing):
    """The PACKING with each number more that some joint can take at once: this saves most searches."""
    woods = begun_woods(frame, numbers, packing)
    rows = []
    for joint, (kind, one, other) in enumerate(frame[2]):
        row = list(packing[joint])
        for number in range(numbers):
            # A joint that has the number finds its own bodies joined already.
            if len(row) < most[joint] and join_marks(woods[number], one, other):
                row.append(number)
        rows.append(tuple(sorted(row)))
    return tuple(rows)


def begun_woods(frame, numbers, packing):
    """For each number marks that tell which bodies its wood joins."""
    woods = bare_woods(numbers, frame[1])
    for joint, (kind, one, other) in enumerate(frame[2]):
        for number in packing[joint]:
            join_marks(woods[number], one, other)
    return woods


def bare_packing(frame):
    """The PACKING in which no joint has a number."""
    return ((),) * len(frame[2])


def greatest_of(frame):
    """A greatest PACKING of what is known to be a FRAME, or would be one but for its number of joints."""
    return greatest_by(frame, joint_sizes(frame), frame[0], bare_packing(frame))


def greatest_packing(frame, *, numbers=None):
    """A greatest PACKING with K numbers, K being numbers."""
    need_frame(frame)
    return greatest_by(frame, joint_sizes(frame), need_numbers(frame, numbers), bare_packing(frame))


def grown(frame, packing):
    """A greatest PACKING in which no joint has fewer numbers than in packing."""
    need_packing(frame, packing)
    return greatest_by(frame, joint_sizes(frame), frame[0], packing)


def rank_of(frame, *, numbers=None):
    """RANK(K), K being numbers."""
    return count_of(greatest_packing(frame, numbers=numbers))


def free_of(frame):
    """FREE: the motions that are left, beside those of the whole."""
    dimension, many, joints = need_frame(frame)
    return dimension * (many - 1) - rank_of(frame)
