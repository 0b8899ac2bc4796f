"""TALLIES: met by a PACKING, or overfull somewhere ([45])."""

from itertools import combinations

from bodybars.basics import is_ascending, is_row, is_whole
from bodybars.errors import BadTally
from bodybars.frames import joint_sizes, need_frame
from bodybars.packings import count_of, is_packing
from bodybars.woods import bare_packing, greatest_by
from bodybars.woodways import tally_by


def tally_fault(frame, value):
    """The fault of a value that should be a TALLY of the frame, None of a TALLY."""
    need_frame(frame)
    if not is_row(value, len(frame[2])):
        return -1
    for at, size in enumerate(joint_sizes(frame)):
        if not is_whole(value[at], 0, size):
            return at
    return None


def need_tally(frame, value):
    """The TALLY; BadTally(place) of any other value."""
    fault = tally_fault(frame, value)
    if fault is not None:
        raise BadTally(fault)
    return value


def packing_with(frame, tally):
    """A PACKING with the TALLY, None if it isn't met."""
    need_tally(frame, tally)
    return packing_by(frame, tally)


def packing_by(frame, tally):
    """A PACKING with what is known to be a TALLY of the FRAME, None if it isn't met."""
    packing = greatest_by(frame, tally, frame[0], bare_packing(frame))
    return packing if count_of(packing) == sum(tally) else None


def is_met(frame, tally):
    """Whether the TALLY is met."""
    return packing_with(frame, tally) is not None


def overfull_lot(frame, tally):
    """A tuple of bodies that is overfull for the TALLY, None if there is none."""
    need_tally(frame, tally)
    bodies = list(range(frame[1]))
    for many in range(2, frame[1] + 1):
        for lot in combinations(bodies, many):
            if is_overfull(frame, tally, lot):
                return lot
    return None


def is_overfull(frame, tally, lot):
    """Whether the joints between these bodies have more numbers than there is room for."""
    between = [number for joint, number in zip(frame[2], tally) if joint[1] in lot and joint[2] in lot]
    return sum(between) > frame[0] * (len(lot) - 1)


def tally_paper(frame, tally):
    """A TALLY PAPER: a PACKING with the TALLY, or bodies that are overfull for it."""
    packing = packing_with(frame, tally)
    if packing is not None:
        return ("met", packing)
    return ("overfull", overfull_lot(frame, tally))


def tally_paper_fault(frame, tally, paper):
    """The first word that applies to a value that should be a TALLY PAPER, "" of one."""
    need_tally(frame, tally)
    if not is_row(paper, 2) or type(paper[0]) is not str:
        return "form"
    word, thing = paper
    if word == "met":
        return met_fault(frame, tally, thing)
    if word == "overfull":
        return overfull_fault(frame, tally, thing)
    return "form"


def met_fault(frame, tally, packing):
    """What is wrong with a value that should be a PACKING with the TALLY, "" if nothing is."""
    if not is_packing(frame, packing):
        return "packing"
    return "" if tally_by(packing) == tally else "tally"


def overfull_fault(frame, tally, lot):
    """What is wrong with a value that should be bodies that are overfull, "" if nothing is."""
    if not is_ascending(lot, frame[1]) or len(lot) < 2:
        return "lot"
    return "" if is_overfull(frame, tally, lot) else "room"
