"""LOADS and their ANSWERS: FORCES that bear them, or a motion that they move ([152])."""

from bodybars.basics import are_integers, is_row, is_whole
from bodybars.errors import BadLoad
from bodybars.frames import need_frame
from bodybars.jointrows import matrix_by, matrix_of
from bodybars.placements import need_placement
from bodybars.spans import begins_with, is_count, out_fault, span_paper_by
from bodybars.stresses import are_forces, cut, made_by_forces

HEAVIEST = 10 ** 9


def need_load(frame, load):
    """The LOAD; BadLoad(place) of any other value."""
    need_frame(frame)
    return need_load_of(frame, load)


def need_load_of(frame, load):
    """The LOAD of what is known to be a FRAME."""
    if not is_row(load, frame[0] * frame[1]):
        raise BadLoad(-1)
    for place, number in enumerate(load):
        if not is_whole(number, -HEAVIEST, HEAVIEST):
            raise BadLoad(place)
    return load


def is_balanced(frame, load):
    """Whether for each of the D columns the sum over the bodies is 0."""
    need_load(frame, load)
    return not any(sum(load[place::frame[0]]) != 0 for place in range(frame[0]))


def load_answer(frame, placement, load):
    """The plain ANSWER to the LOAD."""
    need_placement(frame, placement)
    return answer_by(frame, matrix_by(frame, placement), need_load_of(frame, load))


def answer_by(frame, matrix, load):
    """The plain ANSWER to what is known to be a LOAD."""
    paper = span_paper_by(matrix, len(load), load)
    if paper[0] == "in":
        return ("borne", paper[1], cut(frame, paper[2]))
    return ("moved", paper[1])


def load_fault(frame, placement, load, answer):
    """The word of what is wrong with a value that should be an ANSWER to the LOAD, "" of one."""
    matrix = matrix_of(frame, placement)
    need_load_of(frame, load)
    if begins_with(answer, 3, "borne") and is_count(answer[1]) and are_forces(frame, answer[2]):
        return "" if bears(frame, matrix, load, answer[1], answer[2]) else "bears"
    if begins_with(answer, 2, "moved") and are_integers(answer[1], len(load)):
        return out_fault(matrix, load, answer[1], "work")
    return "form"


def bears(frame, matrix, load, count, forces):
    """Whether the FORCES make count times the LOAD."""
    return made_by_forces(frame, matrix, forces) == tuple([count * number for number in load])
