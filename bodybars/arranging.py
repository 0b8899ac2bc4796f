"""The told ARRANGEMENT of a SUPPLY: one with the greatest RANK ([111])."""

from bodybars.basics import need_many
from bodybars.errors import BadSupply
from bodybars.kinds import is_kind, need_dimension, size_of
from bodybars.supplies import need_supply


def arranged(supply):
    """The pair of the told ARRANGEMENT and its PACKING."""
    need_supply(supply)
    return arranged_by(supply)


def arranged_by(supply):
    """The same of what is known to be a SUPPLY."""
    dimension, many, kinds = supply
    joints, packing, start = [], [], 0
    for kind in kinds:
        end = min(start + size_of(dimension, kind), dimension * (many - 1))
        one, other = bodies_at(dimension, start, end)
        joints.append((kind, one, other))
        packing.append(tuple(sorted([at - at // dimension * dimension for at in range(start, end)])))
        start = end
    return ((dimension, many, tuple(joints)), tuple(packing))


def bodies_at(dimension, start, end):
    """The bodies of a joint that takes the spots from start to ahead of end."""
    if start == end:
        return (0, 1)
    level, last = start // dimension, (end - 1) // dimension
    return (0, level + 1) if level == last else (level + 1, last + 1)


def supply_rank(supply):
    """The greatest RANK of all ARRANGEMENTS."""
    dimension, many, kinds = need_supply(supply)
    return min(sum([size_of(dimension, kind) for kind in kinds]), dimension * (many - 1))


def fewest(dimension, many, kind):
    """The fewest joints of the KIND that can make many bodies stiff."""
    need_dimension(dimension)
    need_many(many)
    if not is_kind(dimension, kind):
        raise BadSupply((2, 0))
    return -(-dimension * (many - 1) // size_of(dimension, kind))
