"""FANS: PURE as a sum of products of determinants ([91])."""

from bodybars.basics import is_row
from bodybars.errors import BadFan
from bodybars.jointrows import rows_by
from bodybars.placements import need_placement
from bodybars.pures import need_square_placement
from bodybars.rows import determinant_by
from bodybars.squares import need_few_bodies, need_square, row_ends, sign_of

MOST_BODIES = {1: 6, 3: 4, 6: 3}


def fans(frame):
    """All FANS, ascending."""
    need_square(frame)
    need_few_bodies(frame, MOST_BODIES[frame[0]])
    begun = [()]
    for ends in row_ends(frame):
        begun = [fan + (body,) for fan in begun for body in ends if may_fan_on(frame, fan, body)]
    return tuple(begun)


def may_fan_on(frame, fan, body):
    """Whether a FAN that is begun may have this body next."""
    return body != 0 and fan.count(body) < frame[0]


def fan_fault(frame, value):
    """The fault of a value that should be a FAN of the SQUARE FRAME, None of a FAN."""
    ends = row_ends(need_square(frame))
    if not is_row(value, len(ends)):
        return -1
    for at, body in enumerate(value):
        if type(body) is not int or body not in ends[at] or not may_fan_on(frame, value[:at], body):
            return at
    return None


def need_fan(frame, value):
    """The FAN; BadFan(place) of any other value."""
    fault = fan_fault(frame, value)
    if fault is not None:
        raise BadFan(fault)
    return value


def fan_sign(frame, fan):
    """The SIGN of the FAN."""
    return sign_by(frame, need_fan(frame, fan))


def fan_lots(frame, fan):
    """For each body from 1 its ROWS, ascending."""
    return [[row for row, its in enumerate(fan) if its == body] for body in range(1, frame[1])]


def sign_by(frame, fan):
    """The SIGN of what is known to be a FAN."""
    greater = [body for body, ends in zip(fan, row_ends(frame)) if body == ends[1]]
    order = [row for lot in fan_lots(frame, fan) for row in lot]
    return sign_of(order) * (-1 if len(greater) % 2 == 1 else 1)


def brackets(frame, placement, fan):
    """The BRACKETS of the bodies from 1."""
    need_square_placement(frame, placement)
    need_fan(frame, fan)
    return brackets_by(frame, placed_rows(frame, placement), fan)


def placed_rows(frame, placement):
    """R(K) for each ROW."""
    return [row for joint, thing in zip(frame[2], placement) for row in rows_by(frame[0], joint[0], thing)]


def brackets_by(frame, rows, fan):
    """The BRACKETS, the ROWS being told."""
    return tuple([determinant_by([rows[at] for at in lot]) for lot in fan_lots(frame, fan)])


def fan_sum(frame, placement):
    """The sum, over all FANS, of the SIGN times the BRACKETS: PURE."""
    need_placement(frame, placement)
    rows = placed_rows(frame, placement)
    total = 0
    for fan in fans(frame):
        term = sign_by(frame, fan)
        for bracket in brackets_by(frame, rows, fan):
            term = term * bracket
        total = total + term
    return total
