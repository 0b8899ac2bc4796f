"""MIXES: all FRAMES with told joints, their CLASSES and how free they are ([113], [114])."""

from itertools import permutations
from math import comb, factorial

from bodybars.basics import all_pairs, is_row, is_whole
from bodybars.errors import BadMix, TooGreat
from bodybars.fillings import free_by
from bodybars.frames import MOST_JOINTS
from bodybars.kinds import is_dimension, kinds_of
from bodybars.oneform import one_form

MOST_FRAMES = 1000


def mix_fault(value):
    """The fault of a value that should be a MIX, None of a MIX."""
    if not is_row(value, 3):
        return ()
    dimension, many, counts = value
    if not is_dimension(dimension):
        return (0,)
    if not is_whole(many, 1, 5):
        return (1,)
    if not is_row(counts, len(kinds_of(dimension))):
        return (2,)
    for place, number in enumerate(counts):
        if not is_whole(number, 0, MOST_JOINTS):
            return (2, place)
    return (2,) if sum(counts) > (MOST_JOINTS if many > 1 else 0) else None


def need_mix(value):
    """The MIX; BadMix(place) of any other value."""
    fault = mix_fault(value)
    if fault is not None:
        raise BadMix(fault)
    return value


def spread(mix):
    """SPREAD: how many FRAMES there are."""
    need_mix(mix)
    return spread_by(mix)


def spread_by(mix):
    """SPREAD of what is known to be a MIX."""
    pairs = len(all_pairs(mix[1]))
    told = 1
    for number in mix[2]:
        # Without pairs there are no joints.
        told = told * (comb(number + pairs - 1, number) if number > 0 else 1)
    return told


def class_count(mix):
    """How many CLASSES there are."""
    dimension, many, counts = need_mix(mix)
    kept = 0
    for order in permutations(range(many)):
        rounds = round_lengths(order)
        product = 1
        for number in counts:
            product = product * even_ways(rounds, number)
        kept = kept + product
    return kept // factorial(many)


def round_lengths(order):
    """How many pairs of bodies each round has in which the order of the bodies leads them on."""
    left = all_pairs(len(order))
    lengths = []
    while left:
        start, length = left[0], 0
        pair = start
        while pair in left:
            left.remove(pair)
            length += 1
            ends = (order[pair[0]], order[pair[1]])
            pair = (min(ends), max(ends))
        lengths.append(length)
    return lengths


def even_ways(lengths, number):
    """In how many ways so many joints may lie between pairs, equally many between the pairs of each round."""
    ways = [1] + [0] * number
    for length in lengths:
        for at in range(length, number + 1):
            ways[at] += ways[at - length]
    return ways[number]


def all_frames(mix):
    """All FRAMES of the MIX, each with its joints in one order; TooGreat(1000) of more."""
    if spread_by(mix) > MOST_FRAMES:
        raise TooGreat(MOST_FRAMES)
    dimension, many, counts = mix
    rows = [()]
    for kind, number in zip(kinds_of(dimension), counts):
        further = laid_joints(kind, number, all_pairs(many))
        rows = [row + more for row in rows for more in further]
    return [(dimension, many, row) for row in rows]


def laid_joints(kind, number, pairs):
    """All ways to lay so many joints of a KIND between pairs, as ascending rows of joints."""
    rows = [((), 0)]
    for _ in range(number):
        rows = [
            (row + ((kind, pairs[at][0], pairs[at][1]),), at) for row, least in rows for at in range(least, len(pairs))
        ]
    return [row for row, least in rows]


def classes_of(mix):
    """The CLASSES, ascending."""
    need_mix(mix)
    return tuple(sorted(set([one_form(frame)[0] for frame in all_frames(mix)])))


def free_table(mix):
    """The FREE TABLE: for each F how many FRAMES have FREE F."""
    need_mix(mix)
    table = [0] * (mix[0] * (mix[1] - 1) + 1)
    for frame in all_frames(mix):
        table[free_by(frame)] += 1
    return tuple(table)
