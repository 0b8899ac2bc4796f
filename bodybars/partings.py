"""PARTINGS of bodies into lots ([12], [31])."""

from bodybars.basics import is_row, is_whole, need_many
from bodybars.errors import BadParting


def parting_fault(many, value):
    """The fault of a value that should be a PARTING of many bodies, None of a PARTING."""
    need_many(many)
    if not is_row(value, many):
        return -1
    lots = 0
    for body, lot in enumerate(value):
        if not is_whole(lot, 0, lots):
            return body
        lots = max(lots, lot + 1)
    return None


def need_parting(many, value):
    """The PARTING; BadParting(place) of any other value."""
    fault = parting_fault(many, value)
    if fault is not None:
        raise BadParting(fault)
    return value


def need_lone_parting(value):
    """The PARTING of as many bodies as it has things; BadParting(place) of any other value."""
    if not is_row_of_bodies(value):
        raise BadParting(-1)
    return need_parting(len(value), value)


def is_row_of_bodies(value):
    """Whether value is a tuple that may have a thing for each body of a FRAME."""
    return type(value) is tuple and 1 <= len(value) <= 8


def parting_of(marks):
    """The PARTING whose lots are the bodies with equal marks."""
    if not is_row_of_bodies(marks):
        raise BadParting(-1)
    for body, mark in enumerate(marks):
        if type(mark) is not int:
            raise BadParting(body)
    return lots_by_marks(marks)


def lots_by_marks(marks):
    """The PARTING by any marks that can be keys of a dict."""
    lots = {}
    for mark in marks:
        lots.setdefault(mark, len(lots))
    return tuple([lots[mark] for mark in marks])


def lots_of(parting):
    """For each lot its bodies, ascending."""
    need_lone_parting(parting)
    lots = [[] for lot in range(max(parting) + 1)]
    for body, lot in enumerate(parting):
        lots[lot].append(body)
    return tuple([tuple(lot) for lot in lots])


def lot_count(parting):
    """How many lots there are."""
    need_lone_parting(parting)
    return max(parting) + 1
