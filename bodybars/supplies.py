"""SUPPLIES: how many bodies there are, and which KINDS of joints ([110])."""

from bodybars.basics import is_row, is_whole
from bodybars.errors import BadSupply
from bodybars.frames import MOST_JOINTS
from bodybars.kinds import is_dimension, is_kind


def supply_fault(value):
    """The fault of a value that should be a SUPPLY, None of a SUPPLY."""
    if not is_row(value, 3):
        return ()
    dimension, many, kinds = value
    if not is_dimension(dimension):
        return (0,)
    if not is_whole(many, 1, 8):
        return (1,)
    if type(kinds) is not tuple or len(kinds) > (MOST_JOINTS if many > 1 else 0):
        return (2,)
    for at, kind in enumerate(kinds):
        if not is_kind(dimension, kind):
            return (2, at)
    return None


def need_supply(value):
    """The SUPPLY; BadSupply(place) of any other value."""
    fault = supply_fault(value)
    if fault is not None:
        raise BadSupply(fault)
    return value
