"""FILLINGS: just as many bars more as make a FRAME stiff ([70])."""

from itertools import combinations

from bodybars.basics import is_row, is_whole
from bodybars.errors import BadFilling, BadPairs
from bodybars.extremes import coarsest_by
from bodybars.frames import joint_sizes, need_frame
from bodybars.packings import count_of
from bodybars.woods import greatest_by, greatest_of


def is_pair(frame, value):
    """Whether value is a pair (A, B) of bodies, A < B."""
    if not is_row(value, 2) or not is_whole(value[0], 0, frame[1] - 2):
        return False
    return is_whole(value[1], value[0] + 1, frame[1] - 1)


def with_bars(frame, pairs):
    """The FRAME with a bar more for each pair; it may have more than 40 joints."""
    return (frame[0], frame[1], frame[2] + tuple([("bar", one, other) for one, other in pairs]))


def free_by(frame):
    """FREE of what would be a FRAME but for its number of joints."""
    return frame[0] * (frame[1] - 1) - count_of(greatest_of(frame))


def filling_fault(frame, value):
    """The first word of [70] that applies to value, "" of a FILLING."""
    need_frame(frame)
    if type(value) is not tuple or not all(is_pair(frame, pair) for pair in value):
        return "form"
    if any(one > other for one, other in zip(value, value[1:])):
        return "form"
    if len(value) != free_by(frame):
        return "count"
    return "" if fills(frame, value) else "loose"


def need_filling(frame, value):
    """The FILLING; BadFilling(word) of any other value."""
    word = filling_fault(frame, value)
    if word != "":
        raise BadFilling(word)
    return value


def first_filling(frame):
    """The first FILLING."""
    need_frame(frame)
    filled, packing = frame, greatest_of(frame)
    pairs = []
    pair = least_apart(filled, packing)
    while pair is not None:
        pairs.append(pair)
        filled = with_bars(filled, [pair])
        packing = greatest_by(filled, joint_sizes(filled), filled[0], packing + ((),))
        pair = least_apart(filled, packing)
    return tuple(pairs)


def least_apart(frame, packing):
    """The least pair of bodies that aren't together, the PACKING being a greatest one; None if all are."""
    parting = coarsest_by(frame, packing, frame[0])
    for one, other in combinations(range(frame[1]), 2):
        if parting[one] != parting[other]:
            return (one, other)
    return None


def filling_swap(frame, one, other, pair):
    """The least pair that can be given for pair both ways.

    None if pair doesn't stand in one more often than in other."""
    need_filling(frame, one)
    need_filling(frame, other)
    if not is_pair(frame, pair):
        raise BadPairs(pair)
    if one.count(pair) <= other.count(pair):
        return None
    for onto in sorted(set(other)):
        if other.count(onto) <= one.count(onto):
            continue
        if fills(frame, given(one, pair, onto)) and fills(frame, given(other, onto, pair)):
            return onto
    return None


def given(filling, gone, onto):
    """The pairs with onto given for gone, once."""
    pairs = [*filling, onto]
    pairs.remove(gone)
    return pairs


def fills(frame, pairs):
    """Whether the bars, as many as a FILLING has, make the frame stiff."""
    return free_by(with_bars(frame, pairs)) == 0
