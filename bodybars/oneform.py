"""The ONE FORM of a FRAME and the RENAMING that makes it ([36])."""

from bodybars.frames import need_frame
from bodybars.renamings import renamed, renaming_back, renaming_then, turned


def cell_ranks(frame):
    """For each two bodies a number: the greater, the greater their CELL is as a tuple."""
    many = frame[1]
    kinds = {(one, other): [] for one in range(many) for other in range(many)}
    for kind, one, other in frame[2]:
        kinds[(one, other)].append(kind)
        kinds[(other, one)].append(kind)
    cells = {ends: tuple(sorted(row)) for ends, row in kinds.items()}
    ranks = {cell: rank for rank, cell in enumerate(sorted(cells.values()))}
    return {ends: ranks[cell] for ends, cell in cells.items()}


def lesser_twins(many, ranks):
    """For each body the lesser bodies that have the same CELLS with all others as it has, ascending.

    To exchange such twins changes no TABLE, and the twins of a twin are twins."""
    return [[other for other in range(body) if are_twins(many, ranks, body, other)] for body in range(many)]


def are_twins(many, ranks, one, other):
    """Whether two bodies have the same CELLS with each third one."""
    return all(
        ranks[(one, third)] == ranks[(other, third)] for third in range(many) if third != one and third != other
    )


def greatest_numberings(many, ranks, twins):
    """The NUMBERINGS that have the greatest TABLE and in which twins stand in ascending order, ascending.

    All others with this TABLE come from these when twins are exchanged; so the least one is among them."""
    begun = [(body,) for body in range(many) if not twins[body]]
    for _ in range(1, many):
        begun = best_continued(many, ranks, twins, begun)
    return begun


def best_continued(many, ranks, twins, begun):
    """Of NUMBERINGS that are begun: those with one body more whose next row is the greatest.

    A lesser row can't be made up for later: TABLES are compared row by row."""
    best, continued = (), []
    for bodies in begun:
        for body in range(many):
            if body in bodies or twins[body] and twins[body][-1] not in bodies:
                continue
            row = tuple([ranks[(body, ahead)] for ahead in bodies])
            if row > best:
                best, continued = row, []
            if row == best:
                continued.append(bodies + (body,))
    return continued


def least_numbering(frame):
    """The least NUMBERING that has the greatest TABLE."""
    ranks = cell_ranks(frame)
    return greatest_numberings(frame[1], ranks, lesser_twins(frame[1], ranks))[0]


def numberings_number(frame):
    """How many NUMBERINGS have the greatest TABLE."""
    ranks = cell_ranks(frame)
    twins = lesser_twins(frame[1], ranks)
    many = len(greatest_numberings(frame[1], ranks, twins))
    # Among lots of twins each order is possible: 1 * 2 * .. for each lot.
    for lesser in twins:
        many = many * (len(lesser) + 1)
    return many


def one_form(frame):
    """The pair of the ONE FORM and the RENAMING that makes it."""
    need_frame(frame)
    bodies = turned(least_numbering(frame))
    places = []
    for old, (kind, one, other) in enumerate(frame[2]):
        ends = (bodies[one], bodies[other])
        places.append((max(ends), min(ends), kind, old))
    order = tuple([place[3] for place in sorted(places)])
    return (renamed(frame, (bodies, order)), (bodies, order))


def like_renaming(one, other):
    """The RENAMING that makes other of one by their ONE FORMS, None if these are unlike."""
    need_frame(one)
    need_frame(other)
    form, there = one_form(one)
    other_form, back = one_form(other)
    if form != other_form:
        return None
    return renaming_then(there, renaming_back(back))
