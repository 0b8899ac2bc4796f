"""FORCES, STRESSES AT a PLACEMENT, and the GRIP of joints ([151], [153])."""

from bodybars.basics import are_integers, is_row, need_joint
from bodybars.frames import joint_sizes
from bodybars.jointrows import matrix_of
from bodybars.rows import null_by, rank_by
from bodybars.spans import sum_of


def stresses_at(frame, placement):
    """STRESSES AT the PLACEMENT."""
    matrix = matrix_of(frame, placement)
    columns = [[row[place] for row in matrix] for place in range(frame[0] * frame[1])]
    return tuple([cut(frame, row) for row in null_by(columns, len(matrix))])


def cut(frame, row):
    """The FORCES that are written as one row, joint after joint."""
    forces, start = [], 0
    for size in joint_sizes(frame):
        forces.append(tuple(row[start:start + size]))
        start += size
    return tuple(forces)


def written(forces):
    """The FORCES as one row, joint after joint."""
    return tuple([number for part in forces for number in part])


def are_forces(frame, value):
    """Whether value is a tuple with a tuple of SIZE integers for each joint."""
    if not is_row(value, len(frame[2])):
        return False
    return all(are_integers(part, size) for part, size in zip(value, joint_sizes(frame)))


def made_by_forces(frame, matrix, forces):
    """What the FORCES make: V numbers."""
    return sum_of(matrix, frame[0] * frame[1], written(forces))


def is_stress(frame, placement, value):
    """Whether value is a STRESS."""
    matrix = matrix_of(frame, placement)
    return are_forces(frame, value) and not any(made_by_forces(frame, matrix, value))


def grip(frame, placement, joint):
    """GRIP of the joint."""
    stresses = stresses_at(frame, placement)
    return grip_by(stresses, need_joint(frame, joint))


def grip_by(stresses, joint):
    """The ROW RANK of what the STRESSES have at the joint."""
    return rank_by([stress[joint] for stress in stresses])


def grips(frame, placement):
    """GRIP of each joint."""
    stresses = stresses_at(frame, placement)
    return tuple([grip_by(stresses, joint) for joint in range(len(frame[2]))])
