"""CENTRES of the bodies of a frame of the plane that has one motion left ([156])."""

from itertools import combinations

from bodybars.errors import NotOne, NotPlane
from bodybars.lines import minus
from bodybars.motions import held_by
from bodybars.placements import need_placement
from bodybars.rows import content, first_place
from bodybars.screws import centre
from bodybars.sways import at_body


def centres(frame, placement):
    """For each pair of bodies A < B a triple of both and their CENTRE."""
    need_placement(frame, placement)
    if frame[0] != 3:
        raise NotPlane(frame[0])
    held = held_by(frame, placement, 0)
    if len(held) != 1:
        raise NotOne(len(held))
    parts = [at_body(frame, held[0], body) for body in range(frame[1])]
    told = []
    for one, other in combinations(range(frame[1]), 2):
        told.append((one, other, centre_by(minus(parts[other], parts[one]))))
    return tuple(told)


def centre_by(motion):
    """The CENTRE of two bodies that move so against one another."""
    if not any(motion):
        return ("still",)
    point = centre(motion)
    if point is not None:
        return ("turn", point[0], point[1])
    common = content(motion)
    if motion[first_place(motion)] < 0:
        common = -common
    return ("shift", (motion[0] // common, motion[1] // common))
