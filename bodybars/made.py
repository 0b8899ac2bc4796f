"""The PLACEMENT OF a PACKING, and GENERAL PAPERS ([53], [54], [56])."""

from bodybars.basics import is_row
from bodybars.bounds import bound_by
from bodybars.corners import corner_lines, corner_places
from bodybars.frames import need_frame
from bodybars.packings import count_of, is_packing, need_packing
from bodybars.partings import parting_fault
from bodybars.placed import rank_at
from bodybars.placements import placement_fault, places_asked
from bodybars.woodpapers import woods_paper


def placement_of_packing(frame, packing):
    """The PLACEMENT OF the PACKING."""
    need_packing(frame, packing)
    return tuple([made_thing(frame[0], joint[0], numbers) for joint, numbers in zip(frame[2], packing)])


def made_thing(dimension, kind, numbers):
    """What places a joint that has these numbers."""
    if places_asked(dimension, kind) == 0:
        return ()
    if kind == "bar":
        return corner_lines(dimension)[numbers[0] if numbers else 0]
    lacked = [number for number in range(dimension) if number not in numbers]
    return corner_places(dimension)[lacked[0]] if kind == "pin" else corner_lines(dimension)[5 - lacked[0]]


def general_paper(frame):
    """A GENERAL PAPER of the FRAME."""
    packing, parting = woods_paper(frame)
    return (packing, parting, placement_of_packing(frame, packing))


def general_paper_fault(frame, paper):
    """The word of what is wrong with a value that should be a GENERAL PAPER, "" of one."""
    need_frame(frame)
    if not is_row(paper, 3):
        return "form"
    packing, parting, placement = paper
    if not is_packing(frame, packing):
        return "packing"
    if parting_fault(frame[1], parting) is not None:
        return "parting"
    if placement_fault(frame, placement) is not None:
        return "placement"
    count = count_of(packing)
    if count != bound_by(frame, parting, frame[0]):
        return "count"
    return "" if rank_at(frame, placement) == count else "rank"
