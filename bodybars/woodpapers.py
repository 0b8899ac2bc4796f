"""WOODS PAPERS: a greatest PACKING and a least PARTING that answer for one another ([49])."""

from bodybars.basics import is_row, need_numbers
from bodybars.bounds import bound_by
from bodybars.extremes import coarsest_by
from bodybars.frames import need_frame
from bodybars.packings import count_of, is_packing
from bodybars.partings import parting_fault
from bodybars.woods import greatest_packing


def woods_paper(frame, *, numbers=None):
    """A WOODS PAPER with K numbers, K being numbers; its PARTING is the coarsest one."""
    packing = greatest_packing(frame, numbers=numbers)
    return (packing, coarsest_by(frame, packing, need_numbers(frame, numbers)))


def woods_fault(frame, paper, *, numbers=None):
    """The first word of what is wrong with a value that should be a WOODS PAPER, "" of one."""
    need_frame(frame)
    many = need_numbers(frame, numbers)
    if not is_row(paper, 2):
        return "form"
    packing, parting = paper
    if not is_packing(frame, packing):
        return "packing"
    if any(row and row[-1] >= many for row in packing):
        return "number"
    if parting_fault(frame[1], parting) is not None:
        return "parting"
    return "" if count_of(packing) == bound_by(frame, parting, many) else "count"


def is_woods_paper(frame, paper, *, numbers=None):
    """Whether paper is a WOODS PAPER with K numbers."""
    return woods_fault(frame, paper, numbers=numbers) == ""
