"""DESIGNS: how many joints of each KIND, PRICES, LOWS, and DESIGN PAPERS ([112])."""

from bodybars.arranging import arranged_by
from bodybars.basics import are_integers, is_row, is_whole
from bodybars.errors import BadNumber, BadPrices
from bodybars.frames import MOST_JOINTS, is_frame
from bodybars.kinds import kinds_of, need_dimension, size_of
from bodybars.packings import count_of, is_packing
from bodybars.rows import dot

DEAREST = 10 ** 6
HIGHEST = 4 * 10 ** 7


def prices_fault(dimension, value):
    """The fault of a value that should be PRICES, None of PRICES."""
    need_dimension(dimension)
    if not is_row(value, len(kinds_of(dimension))):
        return -1
    for place, price in enumerate(value):
        if not is_whole(price, 1, DEAREST):
            return place
    return None


def need_prices(dimension, value):
    """The PRICES; BadPrices(place) of any other value."""
    fault = prices_fault(dimension, value)
    if fault is not None:
        raise BadPrices(fault)
    return value


def need_all(dimension, many, prices):
    """A dimension, from 1 to 7 bodies, and PRICES."""
    need_dimension(dimension)
    if not is_whole(many, 1, 7):
        raise BadNumber(many)
    need_prices(dimension, prices)


def kind_sizes(dimension):
    """The SIZES of the KINDS of a dimension."""
    return [size_of(dimension, kind) for kind in kinds_of(dimension)]


def lows(dimension, many, prices):
    """LOWS: for each N the least price of a DESIGN whose SIZES sum to at least N."""
    need_all(dimension, many, prices)
    return lows_by(dimension, many, prices)


def lows_by(dimension, many, prices):
    """The same of what are known to be valid."""
    row = [0]
    for number in range(1, dimension * (many - 1) + 1):
        row.append(min([row[max(0, number - size)] + price for size, price in zip(kind_sizes(dimension), prices)]))
    return tuple(row)


def cheapest(dimension, many, prices):
    """The least price of a stiff FRAME, and the least DESIGN that has it."""
    need_all(dimension, many, prices)
    return cheapest_by(dimension, many, prices)


def cheapest_by(dimension, many, prices):
    """The same of what are known to be valid."""
    least = lows_by(dimension, many, prices)[-1]
    top = dimension * (many - 1)
    told = [()]
    for size in kind_sizes(dimension):
        # A joint that isn't needed for the sum of SIZES would cost something: there are none in a cheapest DESIGN.
        told = [design + (number,) for design in told for number in range(-(-top // size) + 1)]
    for design in told:
        if dot(design, prices) == least and dot(design, kind_sizes(dimension)) >= top:
            return (least, design)
    return None


def design_paper(dimension, many, prices):
    """The DESIGN PAPER of the told cheapest DESIGN, by the told ARRANGEMENT of its joints."""
    need_all(dimension, many, prices)
    design = cheapest_by(dimension, many, prices)[1]
    frame, packing = arranged_by((dimension, many, tuple(design_kinds(dimension, design))))
    return (design, frame, packing, lows_by(dimension, many, prices))


def design_kinds(dimension, design):
    """The KINDS of the joints of a DESIGN, in the order of all KINDS."""
    return [kind for kind, number in zip(kinds_of(dimension), design) for _ in range(number)]


def design_fault(dimension, many, prices, paper):
    """The first word of what is wrong with a value that should be a DESIGN PAPER, "" of one."""
    need_all(dimension, many, prices)
    if not is_paper_form(dimension, many, paper):
        return "form"
    design, frame, packing, row = paper
    if sorted([joint[0] for joint in frame[2]]) != sorted(design_kinds(dimension, design)):
        return "frame"
    if not is_packing(frame, packing):
        return "packing"
    if count_of(packing) != dimension * (many - 1):
        return "count"
    if not is_low_row(dimension, prices, row):
        return "row"
    return "" if row[-1] == dot(design, prices) else "price"


def is_paper_form(dimension, many, paper):
    """Whether paper is a tuple of a DESIGN, a FRAME of D and MANY, any thing, and a row of numbers."""
    if not is_row(paper, 4):
        return False
    design, frame, packing, row = paper
    if not are_within(design, len(kinds_of(dimension)), MOST_JOINTS):
        return False
    if not is_frame(frame) or frame[:2] != (dimension, many):
        return False
    return are_within(row, dimension * (many - 1) + 1, HIGHEST)


def are_within(value, many, most):
    """Whether value is a tuple of so many integers from 0 to most."""
    return are_integers(value, many) and all(0 <= number <= most for number in value)


def is_low_row(dimension, prices, row):
    """Whether the row begins with 0, never falls, and rises by no joint by more than its price."""
    if row[0] != 0 or any(one > other for one, other in zip(row, row[1:])):
        return False
    for size, price in zip(kind_sizes(dimension), prices):
        if any(row[min(at + size, len(row) - 1)] > number + price for at, number in enumerate(row)):
            return False
    return True
