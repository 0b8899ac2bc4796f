"""All PARTINGS of many bodies in ascending order, and their numbers ([32])."""

from bodybars.basics import is_whole, need_many
from bodybars.errors import BadNumber
from bodybars.partings import need_lone_parting


def endings(many):
    """rows[left][lots]: in how many ways left further bodies may follow those in so many lots."""
    rows = [[1] * (many + 1)]
    for left in range(1, many + 1):
        last = rows[left - 1]
        rows.append([lots * last[lots] + last[lots + 1] for lots in range(many + 1 - left)])
    return rows


def partings_number(many):
    """How many PARTINGS of many bodies there are."""
    need_many(many)
    return endings(many)[many][0]


def all_partings(many):
    """All PARTINGS of many bodies, ascending."""
    need_many(many)
    rows = [(0,)]
    for _ in range(1, many):
        rows = [row + (lot,) for row in rows for lot in range(max(row) + 2)]
    return tuple(rows)


def parting_at(many, number):
    """The PARTING of many bodies with this number; BadNumber(number) if there is none."""
    need_many(many)
    rows = endings(many)
    if not is_whole(number, 0, rows[many][0] - 1):
        raise BadNumber(number)
    parting, lots, behind = (), 0, number
    for body in range(many):
        # Each lot that is there already is followed by equally many PARTINGS.
        step = rows[many - 1 - body][lots]
        lot = min(lots, behind // step)
        behind = behind - lot * step
        lots = max(lots, lot + 1)
        parting = parting + (lot,)
    return parting


def number_of_parting(parting):
    """The number of the PARTING among those of as many bodies."""
    need_lone_parting(parting)
    many = len(parting)
    rows = endings(many)
    number, lots = 0, 0
    for body, lot in enumerate(parting):
        number = number + lot * rows[many - 1 - body][lots]
        lots = max(lots, lot + 1)
    return number
