"""SPAN PAPERS: that a row is in the span of others, or that it isn't ([143])."""

from math import gcd, lcm

from bodybars.basics import are_integers, is_row
from bodybars.errors import BadRow
from bodybars.rows import cleared, dot, need_rows, null_by, swept


def need_span(rows, wide, row):
    """The row that may be in the span of a ROW LIST; BadRow(-1) if it hasn't its width."""
    need_rows(rows, wide)
    if not are_integers(row, wide):
        raise BadRow(-1)
    return row


def is_in_span(rows, wide, row):
    """Whether the row is in the span of the ROW LIST."""
    need_span(rows, wide, row)
    found, kept = swept(rows)
    return not any(cleared(found, row))


def span_paper(rows, wide, row):
    """The plain SPAN PAPER for the row."""
    return span_paper_by(rows, wide, need_span(rows, wide, row))


def span_paper_by(rows, wide, row):
    """The plain SPAN PAPER for what is known to be a row of this width."""
    inside = multiples_by(rows, wide, row)
    if inside is not None:
        return ("in", inside[0], inside[1])
    for null in null_by(rows, wide):
        work = dot(null, row)
        if work != 0:
            return ("out", null if work > 0 else tuple([-number for number in null]))
    return None


def multiples_by(rows, wide, row):
    """N and the MULTIPLES of the plain paper that the row is in the span, None if it isn't.

    The rows stand as columns here: those with a LEAD are the kept ones, and the last column, the row itself,
    tells how much of each is in it."""
    last = len(rows)
    found, kept = swept([[*[line[place] for line in rows], row[place]] for place in range(wide)])
    if last in found:
        return None
    count = 1
    for column, base in found.items():
        count = lcm(count, base[column] // gcd(base[column], base[last]))
    multiples = [0] * last
    for column, base in found.items():
        multiples[column] = count * base[last] // base[column]
    return (count, tuple(multiples))


def sum_of(rows, wide, multiples):
    """The sum of the rows, each times its multiple."""
    total = [0] * wide
    for row, times in zip(rows, multiples):
        if times != 0:
            total = [number + times * onto for number, onto in zip(total, row)]
    return tuple(total)


def is_count(value):
    """Whether value is an integer of at least 1."""
    return type(value) is int and value >= 1


def begins_with(value, many, word):
    """Whether value is a tuple of so many things, the word first."""
    return is_row(value, many) and type(value[0]) is str and value[0] == word


def span_fault(rows, wide, row, paper):
    """The word of what is wrong with a value that should be a SPAN PAPER for the row, "" of one."""
    need_span(rows, wide, row)
    if begins_with(paper, 3, "in") and is_count(paper[1]) and are_integers(paper[2], len(rows)):
        due = tuple([paper[1] * number for number in row])
        return "" if sum_of(rows, wide, paper[2]) == due else "multiples"
    if begins_with(paper, 2, "out") and are_integers(paper[1], wide):
        return out_fault(rows, row, paper[1], "row")
    return "form"


def out_fault(rows, row, null, last):
    """What is wrong with a row that should have the product 0 with all rows, and one above 0 with row.

    "rows" or last tells which of both; "" if nothing is wrong."""
    if any(dot(null, line) != 0 for line in rows):
        return "rows"
    return "" if dot(null, row) > 0 else last
