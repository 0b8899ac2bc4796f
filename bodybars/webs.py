"""WEBS of lines that fall apart into trees, and their TREE COUNTS ([115], [116])."""

from itertools import combinations

from bodybars.basics import all_pairs, is_row, is_whole, join_marks
from bodybars.errors import BadNumber, BadWeb

MOST_TREES = 6
MOST_BODIES = 4
MOST_LISTED = 4


def need_web_numbers(trees, many):
    """How many trees and bodies."""
    if not is_whole(trees, 1, MOST_TREES):
        raise BadNumber(trees)
    if not is_whole(many, 1, MOST_BODIES):
        raise BadNumber(many)


def web_fault(trees, many, value):
    """The fault of a value that should be a WEB, None of a WEB."""
    need_web_numbers(trees, many)
    pairs = len(all_pairs(many))
    if not is_row(value, pairs):
        return -1
    for place, number in enumerate(value):
        if not is_whole(number, 0, trees):
            return place
    return None if is_web_by(trees, many, value) else pairs


def is_web_by(trees, many, row):
    """Whether integers for all pairs have the sum of a WEB, and no lot of bodies has too many lines ([115])."""
    if sum(row) != trees * (many - 1):
        return False
    pairs = all_pairs(many)
    for size in range(2, many):
        for lot in combinations(range(many), size):
            within = [number for number, pair in zip(row, pairs) if pair[0] in lot and pair[1] in lot]
            if sum(within) > trees * (size - 1):
                return False
    return True


def is_web(trees, many, value):
    """Whether value is a WEB."""
    return web_fault(trees, many, value) is None


def web_count(trees, many):
    """How many WEBS there are."""
    need_web_numbers(trees, many)
    number = trees + 1
    if many <= 2:
        return 1
    if many == 3:
        return number * (number + 1) // 2
    return (21 * number ** 5 + 35 * number ** 3 + 4 * number) // 60


def webs(trees, many):
    """All WEBS, ascending; BadNumber(trees) of more than 4 trees over 4 bodies."""
    need_web_numbers(trees, many)
    if many == MOST_BODIES and trees > MOST_LISTED:
        raise BadNumber(trees)
    rows = [()]
    for _ in all_pairs(many):
        rows = [row + (number,) for row in rows for number in range(min(trees, trees * (many - 1) - sum(row)) + 1)]
    return tuple([row for row in rows if is_web_by(trees, many, row)])


def tree_count(trees, many, web):
    """The TREE COUNT of the WEB."""
    fault = web_fault(trees, many, web)
    if fault is not None:
        raise BadWeb(fault)
    counts = {web: 1}
    for _ in range(trees):
        counts = with_tree_less(counts, all_trees(many))
    return counts[(0,) * len(web)]


def with_tree_less(counts, told):
    """For what is left of lines: in how many ways it is so behind one tree more, counts telling it ahead."""
    further = {}
    for left, number in counts.items():
        for tree in told:
            rest = tuple([lines - line for lines, line in zip(left, tree)])
            if min(rest, default=0) >= 0:
                further[rest] = further.get(rest, 0) + number
    return further


def all_trees(many):
    """All trees over the bodies: for each pair of bodies 1 or 0."""
    pairs = all_pairs(many)
    rows = [()]
    for _ in pairs:
        rows = [row + (number,) for row in rows for number in (0, 1)]
    return [row for row in rows if is_tree(many, pairs, row)]


def is_tree(many, pairs, row):
    """Whether the pairs with 1 make a tree over all bodies."""
    marks = list(range(many))
    taken = [pair for pair, number in zip(pairs, row) if number == 1]
    return len(taken) == many - 1 and all(join_marks(marks, one, other) for one, other in taken)
