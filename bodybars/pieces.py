"""The pieces of bodies that hang together by pairs ([34])."""

from bodybars.basics import is_ascending, is_row, join_marks, need_many
from bodybars.errors import BadPairs
from bodybars.partings import lots_by_marks


def pieces(many, pairs):
    """The PARTING into the pieces of many bodies by pairs (A, B), A < B; BadPairs(pairs) of no such pairs."""
    need_many(many)
    if not are_pairs(many, pairs):
        raise BadPairs(pairs)
    marks = list(range(many))
    for one, other in pairs:
        join_marks(marks, one, other)
    return lots_by_marks(marks)


def are_pairs(many, pairs):
    """Whether pairs is a tuple of ascending pairs of bodies."""
    if type(pairs) is not tuple:
        return False
    return all(is_row(pair, 2) and is_ascending(pair, many) for pair in pairs)
