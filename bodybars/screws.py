"""Motions of one body: TURNS, VELOCITIES, WORK, CENTRES, AXES and PITCHES ([146], [147])."""

from bodybars.basics import are_integers, is_row
from bodybars.errors import BadPlace, BadRow
from bodybars.kinds import need_space
from bodybars.lines import cross, line_by, lowest, need_pair, need_place, need_place_at
from bodybars.rows import content, dot


def turn_about(dimension, places):
    """The TURN about a PLACE of the plane, or about the axis through a pair of PLACES of space."""
    if need_space(dimension) == 3:
        return turn_at(need_place(dimension, places))
    if not is_row(places, 2):
        raise BadPlace(-1)
    need_pair(dimension, places[0], places[1])
    line = line_by(places[0], places[1])
    return line[3:] + line[:3]


def turn_at(place):
    """The TURN about what is known to be a PLACE of the plane."""
    return (place[1], -place[0], 1)


def need_row(row, many, index):
    """The row of so many integers; BadRow(index) of any other value."""
    if not are_integers(row, many):
        raise BadRow(index)
    return row


def velocity(dimension, motion, place):
    """The VELOCITY that a motion gives to a place."""
    need_row(motion, need_space(dimension), 0)
    need_place_at(dimension, place, -1)
    return velocity_by(motion, place)


def velocity_by(motion, place):
    """The VELOCITY by what is known to be a motion, at any point with integers."""
    if len(motion) == 3:
        return (motion[0] - motion[2] * place[1], motion[1] + motion[2] * place[0])
    return tuple([number + more for number, more in zip(motion[:3], cross(motion[3:], place))])


def work(row, motion):
    """The WORK of a row on a motion."""
    many = len(row) if type(row) is tuple else 0
    if many not in (1, 3, 6):
        raise BadRow(0)
    return dot(need_row(row, many, 0), need_row(motion, many, 1))


def centre(motion):
    """(N, NUMBERS) of the CENTRE of a motion of the plane, None if its turning is 0."""
    x, y, turning = need_row(motion, 3, 0)
    return None if turning == 0 else lowest(turning, (-y, x))


def axis(motion):
    """(N, NUMBERS, WAY): a point of the AXIS of a motion of space and its WAY, None if its turning is 0."""
    need_row(motion, 6, 0)
    turning = motion[3:]
    if not any(turning):
        return None
    count, numbers = lowest(dot(turning, turning), cross(turning, motion[:3]))
    common = content(turning)
    return (count, numbers, tuple([number // common for number in turning]))


def pitch(motion):
    """(NUMERATOR, N) of the PITCH of a motion of space, None if its turning is 0."""
    need_row(motion, 6, 0)
    turning = motion[3:]
    if not any(turning):
        return None
    count, (numerator,) = lowest(dot(turning, turning), (dot(motion[:3], turning),))
    return (numerator, count)
