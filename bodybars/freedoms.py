"""FREEDOMS of two bodies, and FREEDOM PAPERS ([83], [84])."""

from bodybars.basics import is_row, is_whole, need_body
from bodybars.bounds import bound_by
from bodybars.errors import BadBody, BadNumber
from bodybars.extremes import coarsest_by
from bodybars.frames import joint_sizes, need_frame
from bodybars.packings import count_of, packing_fault_by
from bodybars.partings import parting_fault
from bodybars.woods import greatest_by, greatest_of


def with_weld(frame, one, other):
    """The FRAME with a weld more between two unlike bodies; it may have 41 joints."""
    return (frame[0], frame[1], frame[2] + (("weld", min(one, other), max(one, other)),))


def packing_with_weld(frame, packing, one, other):
    """A greatest PACKING of the FRAME with the weld, made of a greatest one of the FRAME."""
    more = with_weld(frame, one, other)
    return greatest_by(more, joint_sizes(more), more[0], packing + ((),))


def freedom_by(frame, packing, one, other):
    """The FREEDOM of two bodies, the PACKING being a greatest one."""
    if one == other:
        return 0
    # The joints of a greatest PACKING keep how many numbers they have: what comes is the weld's.
    return len(packing_with_weld(frame, packing, one, other)[-1])


def freedom(frame, one, other):
    """The FREEDOM of both bodies."""
    need_frame(frame)
    need_body(frame, one)
    need_body(frame, other)
    return freedom_by(frame, greatest_of(frame), one, other)


def freedoms(frame):
    """For each body its FREEDOMS with all bodies."""
    need_frame(frame)
    packing = greatest_of(frame)
    rows = [[0] * frame[1] for body in range(frame[1])]
    for one in range(frame[1]):
        for other in range(one):
            rows[one][other] = rows[other][one] = freedom_by(frame, packing, one, other)
    return tuple([tuple(row) for row in rows])


def need_unlike_bodies(frame, one, other):
    """Two unlike bodies of the frame."""
    need_frame(frame)
    need_body(frame, one)
    need_body(frame, other)
    if one == other:
        raise BadBody(other)


def freedom_paper(frame, one, other):
    """A FREEDOM PAPER for the FREEDOM of both bodies."""
    need_unlike_bodies(frame, one, other)
    packing = greatest_of(frame)
    welded = packing_with_weld(frame, packing, one, other)
    parting = coarsest_by(frame, packing, frame[0])
    return (welded, parting, coarsest_by(with_weld(frame, one, other), welded, frame[0]))


def freedom_fault(frame, one, other, number, paper):
    """The first word of what is wrong with a value that should be a FREEDOM PAPER for number, "" of one."""
    need_unlike_bodies(frame, one, other)
    if not is_whole(number, 0, frame[0]):
        raise BadNumber(number)
    more = with_weld(frame, one, other)
    if not is_row(paper, 3) or packing_fault_by(more, paper[0]) is not None:
        return "form"
    packing, parting, further = paper
    if parting_fault(frame[1], parting) is not None or parting_fault(frame[1], further) is not None:
        return "form"
    if len(packing[-1]) != number:
        return "number"
    if count_of(packing) != bound_by(more, further, frame[0]):
        return "other"
    return "" if count_of(packing) - number == bound_by(frame, parting, frame[0]) else "parting"
