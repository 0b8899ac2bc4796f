"""PLACEMENTS of FRAMES ([20], [50])."""

from bodybars.basics import is_row, is_whole
from bodybars.errors import BadPlacement
from bodybars.frames import need_frame

FARTHEST = 10 ** 9


def placement_fault(frame, value):
    """The fault of a value that should be a PLACEMENT of the frame, None of a PLACEMENT."""
    dimension, many, joints = need_frame(frame)
    if not is_row(value, len(joints)):
        return -1
    for at, (kind, one, other) in enumerate(joints):
        if not is_placed(dimension, kind, value[at]):
            return at
    return None


def places_asked(dimension, kind):
    """How many PLACES a joint of this kind lies at."""
    if dimension == 1 or kind == "weld":
        return 0
    return 1 if kind == "pin" else 2


def place_width(dimension):
    """How many coordinates a PLACE has: in the plane, or in space."""
    return 2 if dimension == 3 else 3


def is_placed(dimension, kind, thing):
    """Whether thing places a joint of this kind."""
    asked = places_asked(dimension, kind)
    if asked == 0:
        return is_row(thing, 0)
    width = place_width(dimension)
    if asked == 1:
        return is_place(width, thing)
    if not is_row(thing, 2) or not all(is_place(width, place) for place in thing):
        return False
    return thing[0] != thing[1]


def is_place(width, value):
    """Whether value is a PLACE with so many coordinates."""
    if not is_row(value, width):
        return False
    return all(is_whole(number, -FARTHEST, FARTHEST) for number in value)


def need_placement(frame, value):
    """The PLACEMENT; BadPlacement(fault) of any other value."""
    fault = placement_fault(frame, value)
    if fault is not None:
        raise BadPlacement(fault)
    return value


def places_of(frame, placement):
    """For each joint the tuple of the PLACES it lies at."""
    asked = [places_asked(frame[0], joint[0]) for joint in frame[2]]
    return [(thing,) if many == 1 else thing for many, thing in zip(asked, placement)]


def thing_of(kind, places):
    """What places a joint of this kind at these PLACES."""
    return places[0] if kind == "pin" else places
