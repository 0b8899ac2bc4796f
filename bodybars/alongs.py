"""PLACEMENTS moved on by multiples of other ones ([54], [57])."""

from bodybars.basics import is_whole
from bodybars.errors import BadNumber, TooGreat
from bodybars.jointrows import matrix_by
from bodybars.made import placement_of_packing
from bodybars.packings import count_of
from bodybars.placements import FARTHEST, is_place, need_placement, placement_fault, places_of, thing_of
from bodybars.rows import rank_by
from bodybars.woods import greatest_packing

MOST_TIMES = 1000


def along(frame, placement, other, number):
    """The placement moved on by number times other, None where two ends of a joint become one place."""
    need_placement(frame, placement)
    need_placement(frame, other)
    if not is_whole(number, 0, MOST_TIMES):
        raise BadNumber(number)
    return moved_on(frame, placement, other, number)


def moved_on(frame, placement, other, number):
    """The placement moved on, None where it is no PLACEMENT; TooGreat(10 ** 9) if a coordinate lies beyond."""
    things = []
    for joint, places, onto in zip(frame[2], places_of(frame, placement), places_of(frame, other)):
        moved = tuple([further(place, step, number) for place, step in zip(places, onto)])
        things.append(thing_of(joint[0], moved))
    return tuple(things) if placement_fault(frame, tuple(things)) is None else None


def further(place, step, number):
    """The place and number times step together."""
    moved = tuple([one + number * other for one, other in zip(place, step)])
    if not is_place(len(moved), moved):
        raise TooGreat(FARTHEST)
    return moved


def first_general(frame, placement):
    """The least number for which the placement, moved on so often by that of a greatest PACKING, is general."""
    need_placement(frame, placement)
    packing = greatest_packing(frame)
    step = placement_of_packing(frame, packing)
    number = 0
    while not is_general_by(frame, moved_on(frame, placement, step, number), count_of(packing)):
        number += 1
    return number


def is_general_by(frame, placement, rank):
    """Whether there is a PLACEMENT, and this rank is RANK AT it."""
    return placement is not None and rank_by(matrix_by(frame, placement)) == rank
