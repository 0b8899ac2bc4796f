"""The ROWS of joints at a PLACEMENT, and MATRIX ([21], [22])."""

from bodybars.basics import need_joint
from bodybars.lines import line_by
from bodybars.placements import need_placement
from bodybars.rows import first_place


def joint_rows(frame, placement, joint):
    """The ROWS of a joint."""
    need_placement(frame, placement)
    need_joint(frame, joint)
    return rows_by(frame[0], frame[2][joint][0], placement[joint])


def rows_by(dimension, kind, thing):
    """The ROWS of a joint of this kind that thing places."""
    if dimension == 1 or kind == "weld":
        return unit_rows(dimension)
    if kind == "pin":
        return ((1, 0, -thing[1]), (0, 1, thing[0]))
    line = line_by(thing[0], thing[1])
    return (line,) if kind == "bar" else rows_across(turned_line(line), 3)


def unit_rows(wide):
    """All rows with a single 1, ascending by its place."""
    return tuple([(0,) * place + (1,) + (0,) * (wide - place - 1) for place in range(wide)])


def turned_line(line):
    """a of [21]: the numbers behind the way first. It is the TURN about the line."""
    return line[3:] + line[:3]


def rows_across(row, start):
    """For each place but one the row that makes the sum 0 with row by its numbers there and at that one.

    That one is the first place from start on at which row isn't 0."""
    pivot = start + first_place(row[start:])
    rows = []
    for place in range(len(row)):
        if place != pivot:
            across = [0] * len(row)
            across[place] = row[pivot]
            across[pivot] = -row[place]
            rows.append(tuple(across))
    return tuple(rows)


def matrix_of(frame, placement):
    """The rows of MATRIX."""
    need_placement(frame, placement)
    return matrix_by(frame, placement)


def matrix_by(frame, placement):
    """The rows of MATRIX at what is known to be a PLACEMENT."""
    dimension, many, joints = frame
    matrix = []
    for (kind, one, other), thing in zip(joints, placement):
        for row in rows_by(dimension, kind, thing):
            wide = [0] * (dimension * many)
            wide[dimension * one:dimension * one + dimension] = row
            wide[dimension * other:dimension * other + dimension] = [-number for number in row]
            matrix.append(tuple(wide))
    return tuple(matrix)
