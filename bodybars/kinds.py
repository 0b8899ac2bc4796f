"""Dimensions, and the KINDS of joints with their SIZES ([10])."""

from bodybars.errors import BadDimension, NoSpace

SIZES = {
    (1, "bar"): 1,
    (1, "weld"): 1,
    (3, "bar"): 1,
    (3, "pin"): 2,
    (3, "weld"): 3,
    (6, "bar"): 1,
    (6, "hinge"): 5,
    (6, "weld"): 6,
}


def is_dimension(value):
    """Whether value is a D."""
    return type(value) is int and value in (1, 3, 6)


def need_dimension(value):
    """The dimension; BadDimension() of what is none."""
    if not is_dimension(value):
        raise BadDimension()
    return value


def need_space(value):
    """The dimension of the plane or of space; NoSpace() of the line."""
    if need_dimension(value) == 1:
        raise NoSpace()
    return value


def is_kind(dimension, value):
    """Whether value is a KIND that joints have in this dimension."""
    return type(value) is str and (dimension, value) in SIZES


def size_of(dimension, kind):
    """The SIZE of a KIND."""
    return SIZES[(dimension, kind)]


def kinds_of(dimension):
    """The KINDS of a dimension in the order bar, pin or hinge, weld."""
    return [kind for home, kind in SIZES if home == dimension]
