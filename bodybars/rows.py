"""ROW LISTS: REDUCED lists, ROW RANK, NULL ROWS and determinants ([140] to [142]).

What ends in "by" asks nothing: other files call it with rows that they made, of any number and width."""

from math import gcd, lcm

from bodybars.basics import are_integers, is_whole
from bodybars.errors import BadRows, BadWidth

MOST = 240


def need_rows(rows, wide):
    """The ROW LIST; BadWidth() or BadRows(index) of any other values."""
    if not is_whole(wide, 1, MOST):
        raise BadWidth()
    return need_row_list(rows, wide)


def need_row_list(rows, wide):
    """The tuple of at most 240 tuples of so many integers; BadRows(index) of any other value."""
    if type(rows) is not tuple or len(rows) > MOST:
        raise BadRows(-1)
    for at, row in enumerate(rows):
        if not are_integers(row, wide):
            raise BadRows(at)
    return rows


def dot(one, other):
    """The sum of the products, place by place."""
    return sum([number * onto for number, onto in zip(one, other)])


def content(row):
    """The greatest common divisor of the numbers, 0 of a row of zeros."""
    common = 0
    for number in row:
        common = gcd(common, number)
        if common == 1:
            break
    return common


def first_place(row):
    """The first place at which no 0 stands, None of a row of zeros."""
    for place, number in enumerate(row):
        if number != 0:
            return place
    return None


def swept(rows):
    """The rows of the REDUCED list by the columns of their LEADS, and the numbers of the kept rows."""
    found, kept = {}, []
    for at, row in enumerate(rows):
        rest = cleared(found, row)
        lead = first_place(rest)
        if lead is not None:
            enter(found, rest, lead)
            kept.append(at)
    return (found, kept)


def cleared(found, row):
    """An integer times the row, less multiples of the found rows, so that it is 0 at all their LEADS.

    Each found row is 0 at the LEADS of the others, so that they don't disturb one another."""
    hit = [column for column in found if row[column] != 0]
    scale = 1
    for column in hit:
        lead = found[column][column]
        scale = lcm(scale, lead // gcd(lead, row[column]))
    rest = [scale * number for number in row]
    for column in hit:
        base = found[column]
        times = scale * row[column] // base[column]
        rest = [number - times * onto for number, onto in zip(rest, base)]
    return rest


def enter(found, row, lead):
    """Puts a row, 0 at all LEADS that are found, beside the found ones; its own LEAD leaves these."""
    common = content(row) if row[lead] > 0 else -content(row)
    base = [number // common for number in row]
    for column in list(found):
        if found[column][lead] != 0:
            found[column] = without_lead(found[column], base, lead)
    found[lead] = base


def without_lead(row, base, lead):
    """The row, less a multiple of base, so that it is 0 at the LEAD of base; without a common divisor."""
    common = gcd(base[lead], row[lead])
    up, down = base[lead] // common, row[lead] // common
    rest = [up * number - down * onto for number, onto in zip(row, base)]
    common = content(rest)
    return rest if common == 1 else [number // common for number in rest]


def reduced_by(rows):
    """The REDUCED list."""
    found, kept = swept(rows)
    return tuple([tuple(found[column]) for column in sorted(found)])


def rank_by(rows):
    """ROW RANK."""
    return len(swept(rows)[1])


def null_by(rows, wide):
    """The NULL ROWS."""
    # The rows are swept from their ends, so that each NULL ROW begins at a column without a LEAD
    # and the others are 0 there: so they are REDUCED at once.
    found, kept = swept([row[::-1] for row in rows])
    free = [column for column in range(wide) if column not in found]
    return tuple([null_row(found, wide, column)[::-1] for column in free[::-1]])


def null_row(found, wide, free):
    """The row with the product 0 with all found ones that is 0 at the columns without a LEAD but at free."""
    hit = [column for column in found if found[column][free] != 0]
    row = [0] * wide
    row[free] = 1
    for column in hit:
        lead = found[column][column]
        row[free] = lcm(row[free], lead // gcd(lead, found[column][free]))
    for column in hit:
        row[column] = -row[free] * found[column][free] // found[column][column]
    return tuple(row)


def reduced(rows, wide):
    """The REDUCED list of a ROW LIST."""
    return reduced_by(need_rows(rows, wide))


def row_rank(rows, wide):
    """ROW RANK of a ROW LIST."""
    return rank_by(need_rows(rows, wide))


def null_rows(rows, wide):
    """The NULL ROWS of a ROW LIST."""
    return null_by(need_rows(rows, wide), wide)


def kept_rows(rows, wide):
    """The numbers of the rows that aren't in the span of the rows ahead of them, ascending."""
    return tuple(swept(need_rows(rows, wide))[1])


def determinant(rows):
    """The determinant of as many rows as they are wide; 1 of ()."""
    return determinant_by(need_row_list(rows, len(rows) if type(rows) is tuple else 0))


def determinant_by(rows):
    """The determinant of what is known to be as many rows as they are wide."""
    left = [(1, row) for row in rows]
    pivot = 1
    while left:
        starts = [at for at, (scale, row) in enumerate(left) if row[0] != 0]
        if not starts:
            return 0
        base = pivot_row(left, starts[0], pivot)
        left = [below(scale, row, base) for scale, row in left[:starts[0]] + left[starts[0] + 1:]]
        pivot = base[0]
    return pivot


def pivot_row(left, at, pivot):
    """The row that comes first now, brought up to the last pivot, with the sign of its way to the front."""
    scale, row = left[at]
    times = pivot if at % 2 == 0 else -pivot
    return [times * number // scale for number in row]


def below(scale, row, base):
    """A row, less a multiple of base, without its first number, and the pivot at which it was made.

    The numbers are determinants of parts of the rows, so each division leaves nothing over. A row that is 0 there
    isn't touched: its scale tells by what it would have been divided and multiplied by now."""
    if row[0] == 0:
        return (scale, row[1:])
    rest = [(number * base[0] - row[0] * onto) // scale for number, onto in zip(row[1:], base[1:])]
    return (base[0], rest)
