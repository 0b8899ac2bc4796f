"""DEALS: PURE as a sum of products of single numbers, by trees ([92])."""

from itertools import permutations

from bodybars.basics import is_row, is_whole, join_marks
from bodybars.errors import BadDeal, BadPacking
from bodybars.fans import placed_rows
from bodybars.packings import bare_woods, count_of, need_packing
from bodybars.placements import need_placement
from bodybars.rows import determinant_by
from bodybars.squares import need_few_bodies, need_square, row_ends, sign_of

MOST_BODIES = {1: 6, 3: 4, 6: 2}


def deals(frame):
    """All DEALS, ascending."""
    need_square(frame)
    need_few_bodies(frame, MOST_BODIES[frame[0]])
    ends = row_ends(frame)
    begun = [()]
    for row in range(len(ends)):
        begun = [
            deal + (number,) for deal in begun for number in range(frame[0])
            if first_round(frame, ends, deal + (number,)) is None
        ]
    return tuple(begun)


def first_round(frame, ends, deal):
    """The first ROW whose number isn't one or closes a round with ROWS ahead that have it, None without one."""
    woods = bare_woods(frame[0], frame[1])
    for row, number in enumerate(deal):
        if not is_whole(number, 0, frame[0] - 1) or not join_marks(woods[number], ends[row][0], ends[row][1]):
            return row
    return None


def deal_fault(frame, value):
    """The fault of a value that should be a DEAL of the SQUARE FRAME, None of a DEAL."""
    ends = row_ends(need_square(frame))
    return first_round(frame, ends, value) if is_row(value, len(ends)) else -1


def deal_sign(frame, deal):
    """The SIGN of the DEAL."""
    fault = deal_fault(frame, deal)
    if fault is not None:
        raise BadDeal(fault)
    return sign_by(frame, deal)


def sign_by(frame, deal):
    """The SIGN of what is known to be a DEAL."""
    dimension, many, joints = frame
    ends = row_ends(frame)
    lots = [[row for row, its in enumerate(deal) if its == number] for number in range(dimension)]
    sign = sign_of([row for lot in lots for row in lot])
    for lot in lots:
        sign = sign * epsilon(many, [ends[row] for row in lot])
    odd = dimension * (dimension - 1) // 2 * ((many - 1) * (many - 2) // 2) % 2 == 1
    return -sign if odd else sign


def epsilon(many, ends):
    """EPSILON of a number whose ROWS have these bodies."""
    rows = []
    for one, other in ends:
        row = [0] * many
        row[one], row[other] = 1, -1
        rows.append(row[1:])
    return determinant_by(rows)


def deal_sum(frame, placement):
    """The sum, over all DEALS, of the SIGN times a number of each ROW: PURE."""
    need_placement(frame, placement)
    total = 0
    for deal in deals(frame):
        term = sign_by(frame, deal)
        for row, number in zip(placed_rows(frame, placement), deal):
            term = term * row[number]
        total = total + term
    return total


def deals_of(frame, packing):
    """The DEALS of the PACKING, ascending: its ROWS have the numbers of their joint in any order."""
    need_square(frame)
    need_few_bodies(frame, MOST_BODIES[frame[0]])
    need_packing(frame, packing)
    if count_of(packing) != frame[0] * (frame[1] - 1):
        raise BadPacking(())
    told = [()]
    for numbers in packing:
        # The orders of an ascending row ascend.
        told = [deal + row for deal in told for row in permutations(list(numbers))]
    return tuple(told)
