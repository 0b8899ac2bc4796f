"""PURE, the determinant of MATRIX with a body held, and HINGE WEIGHTS ([90], [94])."""

from bodybars.basics import need_body
from bodybars.jointrows import matrix_by, turned_line
from bodybars.lines import line_by
from bodybars.placements import need_placement
from bodybars.rows import determinant_by
from bodybars.squares import need_square


def need_square_placement(frame, placement):
    """A SQUARE FRAME with a PLACEMENT, which is asked first."""
    need_placement(frame, placement)
    need_square(frame)


def pure(frame, placement):
    """PURE with body 0 held."""
    need_square_placement(frame, placement)
    return pure_by(frame, placement, 0)


def pure_held(frame, placement, body):
    """PURE with the body held."""
    need_square_placement(frame, placement)
    return pure_by(frame, placement, need_body(frame, body))


def pure_by(frame, placement, body):
    """The same of what are known to be a SQUARE FRAME, a PLACEMENT and a body."""
    start = frame[0] * body
    return determinant_by([row[:start] + row[start + frame[0]:] for row in matrix_by(frame, placement)])


def hinge_weight(frame, placement):
    """The product of a[p] ** 4 over the hinges, times -1 for each one with p = 4."""
    need_placement(frame, placement)
    weight = 1
    for joint, thing in zip(frame[2], placement):
        if joint[0] == "hinge":
            place, number = axis_pivot(thing)
            weight = weight * number ** 4 * (-1 if place == 4 else 1)
    return weight


def axis_pivot(thing):
    """p of [21] and a[p] of a hinge with this axis."""
    row = turned_line(line_by(thing[0], thing[1]))
    for place in (3, 4, 5):
        if row[place] != 0:
            return (place, row[place])
    return None
