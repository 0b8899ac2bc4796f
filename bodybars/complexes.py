"""The COMPLEX of a bar: what PURE is for any row in its place ([95])."""

from bodybars.basics import need_joint
from bodybars.errors import NotBar, NotPlane
from bodybars.jointrows import matrix_by, unit_rows
from bodybars.placements import need_placement
from bodybars.rows import determinant_by
from bodybars.squares import need_square, row_joints


def complex_of(frame, placement, joint):
    """COMPLEX of a bar."""
    need_placement(frame, placement)
    need_square(frame)
    need_joint(frame, joint)
    if frame[2][joint][0] != "bar":
        raise NotBar(joint)
    matrix = matrix_by(frame, placement)
    at = row_joints(frame).index(joint)
    told = []
    for row in unit_rows(frame[0]):
        changed = matrix[:at] + (row_between(frame, joint, row),) + matrix[at + 1:]
        told.append(determinant_by([wide[frame[0]:] for wide in changed]))
    return tuple(told)


def row_between(frame, joint, row):
    """The row of MATRIX by a row of D numbers between the bodies of a joint."""
    dimension, many, joints = frame
    wide = [0] * (dimension * many)
    for place, number in enumerate(row):
        wide[dimension * joints[joint][1] + place] = number
        wide[dimension * joints[joint][2] + place] = -number
    return tuple(wide)


def bar_centre(frame, placement, joint):
    """The CENTRE (X, Y, W) of a bar of the plane."""
    need_placement(frame, placement)
    if frame[0] != 3:
        raise NotPlane(frame[0])
    x, y, turning = complex_of(frame, placement, joint)
    return (-y, x, turning)
