"""SQUARE FRAMES for tests, and PURE by its words alone."""

import itertools
import math

from tests.helper import KINDS, SIZE, draw_close_placement, draw_placement, drawn, slow_matrix, slow_rank_of, slow_rows

MOST = {1: 8, 3: 8, 6: 7}

# Not SQUARE, with how many ROWS they have and should have.
NOT_SQUARE = (
    ((3, 3, (("pin", 0, 1), ("pin", 1, 2))), 4, 6),
    ((6, 2, (("hinge", 0, 1), ("bar", 0, 1), ("bar", 0, 1))), 7, 6),
    ((1, 1, ()), 0, 0),
    ((3, 2, ()), 0, 3),
    ((1, 2, (("weld", 0, 1), ("bar", 0, 1))), 2, 1),
)
TRIANGLE = (3, 3, (("pin", 0, 1), ("pin", 1, 2), ("pin", 0, 2)))


def draw_square(rng, dimension, many):
    """A SQUARE FRAME: often a stiff one."""
    due, joints = dimension * (many - 1), []
    while due:
        kind = rng.choice([kind for kind in KINDS[dimension] if SIZE[dimension][kind] <= due])
        joints.append((kind, *sorted(rng.sample(range(many), 2))))
        due -= SIZE[dimension][kind]
    return (dimension, many, tuple(joints))


def square_frames(seed, times, most=MOST):
    rng = drawn(seed)
    for dimension in (1, 3, 6):
        yield (dimension, 1, ())
    yield TRIANGLE
    for _ in range(times):
        for dimension in (1, 3, 6):
            yield draw_square(rng, dimension, rng.randint(1, most[dimension]))


def stiff_square_frames(seed, times, most=MOST):
    for frame in square_frames(seed, times, most):
        if slow_free(frame) == 0:
            yield frame


def slow_free(frame):
    from bodybars.woods import free_of
    return frame[0] * (frame[1] - 1) - slow_rank_of(frame) if frame[1] <= 5 else free_of(frame)


def placed_squares(seed, times, most=MOST, far=4):
    rng = drawn(seed)
    for frame in square_frames(seed + 1, times, most):
        draw = draw_close_placement if rng.random() < 0.3 else draw_placement
        yield frame, draw(rng, frame) if draw is draw_close_placement else draw(rng, frame, rng.choice((1, far)))


def slow_determinant(rows):
    """By fractions that are never made: Laplace for few rows, elimination by remainders for more."""
    if len(rows) <= 4:
        total = 0
        for order in itertools.permutations(range(len(rows))):
            total += slow_sign(order) * math.prod(row[at] for row, at in zip(rows, order))
        return total
    rows, sign = [list(row) for row in rows], 1
    for at in range(len(rows)):
        for below in range(at + 1, len(rows)):
            while rows[below][at]:
                times = rows[at][at] // rows[below][at]
                rows[at] = [a - times * b for a, b in zip(rows[at], rows[below])]
                rows[at], rows[below], sign = rows[below], rows[at], -sign
    return sign * math.prod(rows[at][at] for at in range(len(rows)))


def slow_sign(row):
    """1 of an even list, -1 of an odd one."""
    return (-1) ** sum(one > other for one, other in itertools.combinations(row, 2))


def slow_pure(frame, placement, body=0):
    start, end = frame[0] * body, frame[0] * body + frame[0]
    return slow_determinant([row[:start] + row[end:] for row in slow_matrix(frame, placement)])


def all_rows(frame, placement):
    """R(K) of each ROW."""
    return [row for joint, thing in zip(frame[2], placement) for row in slow_rows(frame[0], joint[0], thing)]


def all_ends(frame):
    """The bodies of each ROW."""
    return [(a, b) for kind, a, b in frame[2] for _ in range(SIZE[frame[0]][kind])]
