"""CHEAPEST PAPERS: a PACKING, and a PARTING for each LEVEL that answers for it ([73])."""

from bodybars.basics import is_row
from bodybars.bounds import bound_by
from bodybars.cheapest import greedy_by
from bodybars.costs import cheap_part, levels_of, need_costs
from bodybars.extremes import coarsest_by
from bodybars.packings import count_of, is_packing
from bodybars.partings import parting_fault


def cheap_packing(costs, packing, cost):
    """What the PACKING gives to the joints of the cheap part."""
    return tuple([numbers for numbers, number in zip(packing, costs) if number <= cost])


def cheapest_paper(frame, costs):
    """A CHEAPEST PAPER with the greedy TALLY and the coarsest PARTINGS."""
    need_costs(frame, costs)
    packing = greedy_by(frame, costs)
    partings = [
        coarsest_by(cheap_part(frame, costs, level), cheap_packing(costs, packing, level), frame[0])
        for level in levels_of(frame, costs)
    ]
    return (packing, tuple(partings))


def cheapest_fault(frame, costs, paper):
    """The first word of what is wrong with a value that should be a CHEAPEST PAPER, "" of one."""
    levels = levels_of(frame, costs)
    if not is_row(paper, 2) or not is_row(paper[1], len(levels)):
        return "form"
    packing, partings = paper
    if not is_packing(frame, packing):
        return "packing"
    if any(parting_fault(frame[1], parting) is not None for parting in partings):
        return "parting"
    for level, parting in zip(levels, partings):
        bound = bound_by(cheap_part(frame, costs, level), parting, frame[0])
        if bound != count_of(cheap_packing(costs, packing, level)):
            return "level"
    return ""


def is_cheapest_paper(frame, costs, paper):
    """Whether paper is a CHEAPEST PAPER."""
    return cheapest_fault(frame, costs, paper) == ""
