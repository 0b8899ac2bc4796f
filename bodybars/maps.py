"""MAPS of the plane and of space, and what they move ([148], [149])."""

from bodybars.basics import are_integers, is_row, is_whole
from bodybars.errors import BadMap, TooGreat
from bodybars.kinds import need_space
from bodybars.lines import cross, moment, need_place_at
from bodybars.placements import FARTHEST, need_placement, place_width, places_of, thing_of
from bodybars.rows import determinant_by, dot
from bodybars.screws import need_row

STEEPEST = 1000
LONGEST = 10 ** 6


def is_map(dimension, value):
    """Whether value is a MAP of the plane or of space."""
    width = place_width(dimension)
    if not is_row(value, 2) or not is_row(value[0], width):
        return False
    if not all(are_within(row, width, STEEPEST) for row in value[0]):
        return False
    return are_within(value[1], width, LONGEST) and determinant_by(value[0]) != 0


def are_within(value, many, most):
    """Whether value is a tuple of so many integers from -most to most."""
    return are_integers(value, many) and all(is_whole(number, -most, most) for number in value)


def need_map(dimension, value):
    """The MAP; BadMap() of any other value."""
    return need_map_of(need_space(dimension), value)


def need_map_of(dimension, value):
    """The MAP of the plane or of space; BadMap() of any other value."""
    if not is_map(dimension, value):
        raise BadMap()
    return value


def turned_by(rows, way):
    """A * way, A being the rows."""
    return tuple([dot(row, way) for row in rows])


def plus(one, other):
    """Both rows together, place by place."""
    return tuple([number + more for number, more in zip(one, other)])


def moved_by(change, place):
    """The moved PLACE; TooGreat(10 ** 9) if a coordinate would lie beyond all PLACES."""
    moved = plus(turned_by(change[0], place), change[1])
    if not are_within(moved, len(place), FARTHEST):
        raise TooGreat(FARTHEST)
    return moved


def moved_place(dimension, change, place):
    """The moved PLACE."""
    need_map(dimension, change)
    return moved_by(change, need_place_at(dimension, place, -1))


def moved_row(dimension, change, row):
    """The MOVED ROW."""
    need_map(dimension, change)
    need_row(row, dimension, 0)
    rows, shift = change
    width = place_width(dimension)
    way = turned_by(rows, row[:width])
    return way + plus(turned_by(cofactors(rows), row[width:]), moment(shift, way))


def cofactors(rows):
    """By what the numbers behind the way of a row are multiplied: of the plane the determinant alone."""
    if len(rows) == 2:
        return ((determinant_by(rows),),)
    return (cross(rows[1], rows[2]), cross(rows[2], rows[0]), cross(rows[0], rows[1]))


def composed(dimension, last, first):
    """The MAP that does first, then last."""
    need_map(dimension, last)
    need_map(dimension, first)
    columns = [[row[place] for row in first[0]] for place in range(len(first[0]))]
    rows = tuple([turned_by(columns, row) for row in last[0]])
    shift = plus(turned_by(last[0], first[1]), last[1])
    if not all(are_within(row, len(row), STEEPEST) for row in rows):
        raise TooGreat(STEEPEST)
    if not are_within(shift, len(shift), LONGEST):
        raise TooGreat(LONGEST)
    return (rows, shift)


def moved_placement(frame, placement, change):
    """The PLACEMENT with all its PLACES moved."""
    need_placement(frame, placement)
    need_map(frame[0], change)
    moved = []
    for joint, places in zip(frame[2], places_of(frame, placement)):
        moved.append(thing_of(joint[0], tuple([moved_by(change, place) for place in places])))
    return tuple(moved)
