"""PLACES, LINES through two of them, and where two LINES meet ([144], [145])."""

from bodybars.basics import are_integers, is_row
from bodybars.errors import BadPlace, BadRow, OnePlace
from bodybars.kinds import need_space
from bodybars.placements import is_place, place_width
from bodybars.rows import content, dot, first_place


def need_place(dimension, place):
    """The PLACE; BadPlace(-1) of any other value."""
    return need_place_at(need_space(dimension), place, -1)


def need_place_at(dimension, place, index):
    """The PLACE; BadPlace(index) of any other value."""
    if not is_place(place_width(dimension), place):
        raise BadPlace(index)
    return place


def need_pair(dimension, one, other):
    """Two unlike PLACES."""
    need_place_at(dimension, one, 0)
    need_place_at(dimension, other, 1)
    return need_unlike(one, other)


def need_unlike(one, other):
    """The pair of both PLACES; OnePlace() of two like ones."""
    if one == other:
        raise OnePlace()
    return (one, other)


def minus(one, other):
    """One less the other, place by place."""
    return tuple([number - less for number, less in zip(one, other)])


def cross(one, other):
    """The cross product of two rows of three."""
    (x, y, z), (u, v, w) = one, other
    return (y * w - z * v, z * u - x * w, x * v - y * u)


def moment(place, way):
    """What a LINE through the place with this way has behind its way."""
    if len(way) == 3:
        return cross(place, way)
    return (place[0] * way[1] - place[1] * way[0],)


def line_by(one, other):
    """The LINE of what are known to be two unlike PLACES."""
    way = minus(other, one)
    return way + moment(one, way)


def line_of(dimension, one, other):
    """The LINE of two unlike PLACES."""
    need_space(dimension)
    need_pair(dimension, one, other)
    return line_by(one, other)


def is_line_row(dimension, row):
    """Whether row is a LINE ROW."""
    need_space(dimension)
    width = place_width(dimension)
    if not are_integers(row, dimension) or not any(row[:width]):
        return False
    return width == 2 or dot(row[:3], row[3:]) == 0


def is_on(dimension, one, other, place):
    """Whether place lies on the line through the two others."""
    line = line_of(dimension, one, other)
    need_place_at(dimension, place, 2)
    width = place_width(dimension)
    return moment(place, line[:width]) == line[width:]


def product(one, other):
    """PRODUCT of two rows of six."""
    for index, row in enumerate((one, other)):
        if not are_integers(row, 6):
            raise BadRow(index)
    return product_by(one, other)


def product_by(one, other):
    """PRODUCT of what are known to be two rows of six."""
    return dot(one[:3], other[3:]) + dot(one[3:], other[:3])


def are_multiples(one, other):
    """Whether two rows that aren't 0 are multiples of one another."""
    place = first_place(one)
    return all(one[place] * onto == other[place] * number for number, onto in zip(one, other))


def need_pairs(dimension, first, second):
    """Two pairs of unlike PLACES."""
    need_space(dimension)
    for start, pair in ((0, first), (2, second)):
        if not is_row(pair, 2):
            raise BadPlace(start)
        need_place_at(dimension, pair[0], start)
        need_place_at(dimension, pair[1], start + 1)
    need_unlike(first[0], first[1])
    need_unlike(second[0], second[1])
    return (first, second)


def meeting(dimension, first, second):
    """The word of the MEETING of two pairs of PLACES."""
    need_pairs(dimension, first, second)
    return meeting_by(line_by(first[0], first[1]), line_by(second[0], second[1]))


def meeting_by(one, other):
    """The word of the MEETING of what are known to be two LINES."""
    if are_multiples(one, other):
        return "same"
    if len(one) == 6 and product_by(one, other) != 0:
        return "skew"
    width = place_width(len(one))
    return "parallel" if are_multiples(one[:width], other[:width]) else "crossing"


def crossing_place(dimension, first, second):
    """The point on both lines as (N, NUMBERS), None if they don't cross."""
    if meeting(dimension, first, second) != "crossing":
        return None
    (start, end), (onto, beyond) = first, second
    way, other_way = minus(end, start), minus(beyond, onto)
    # start + T * way lies on the other line where T times the moment of way is that of the way to onto.
    side = moment(way, other_way)
    times, count = dot(moment(minus(onto, start), other_way), side), dot(side, side)
    return lowest(count, [count * number + times * step for number, step in zip(start, way)])


def lowest(count, numbers):
    """(N, NUMBERS): the numbers divided by count, not 0, in lowest terms, N at least 1."""
    common = content([count, *numbers])
    if count < 0:
        common = -common
    return (count // common, tuple([number // common for number in numbers]))
