"""SQUARE FRAMES and the numbers of their ROWS ([90])."""

from bodybars.errors import NotSquare, TooGreat
from bodybars.frames import joint_sizes, need_frame


def is_square(frame):
    """Whether the SIZES sum to D * (MANY - 1)."""
    rows, due = rows_due(need_frame(frame))
    return rows == due


def rows_due(frame):
    """How many ROWS the frame has, and how many a SQUARE one has."""
    return (sum(joint_sizes(frame)), frame[0] * (frame[1] - 1))


def need_square(frame):
    """The SQUARE FRAME; NotSquare(rows, due) of another one."""
    rows, due = rows_due(need_frame(frame))
    if rows != due:
        raise NotSquare(rows, due)
    return frame


def need_few_bodies(frame, most):
    """The FRAME with at most so many bodies; TooGreat(most) of more."""
    if frame[1] > most:
        raise TooGreat(most)
    return frame


def row_joints(frame):
    """For each ROW the number of its joint."""
    need_frame(frame)
    return tuple([joint for joint, size in enumerate(joint_sizes(frame)) for _ in range(size)])


def row_ends(frame):
    """For each ROW its two bodies, the lesser one first."""
    return [frame[2][joint][1:] for joint in row_joints(frame)]


def sign_of(row):
    """1 of a list of unlike numbers that is even, -1 of an odd one ([91])."""
    sign = 1
    for at, number in enumerate(row):
        if sum([ahead > number for ahead in row[:at]]) % 2 == 1:
            sign = -sign
    return sign
