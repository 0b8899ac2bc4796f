"""The corners of the plane and of space, and the lines through two of them ([52])."""

from bodybars.kinds import need_space

PLANE = ((0, 0), (1, 0), (0, 1))
SPACE = ((0, 0, 0), (1, 0, 0), (0, 1, 0), (0, 0, 1))
SIDES = ((1, 2), (0, 2), (0, 1))
EDGES = ((0, 1), (0, 2), (0, 3), (1, 2), (1, 3), (2, 3))


def corner_places(dimension):
    """The corners."""
    return PLANE if need_space(dimension) == 3 else SPACE


def corner_lines(dimension):
    """The pairs of corners that the sides or edges join, E 0 first."""
    corners = corner_places(dimension)
    ends = SIDES if dimension == 3 else EDGES
    return tuple([(corners[one], corners[other]) for one, other in ends])
