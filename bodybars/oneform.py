"""The ONE FORM of a FRAME and the RENAMING that makes it ([36])."""

from bodybars.frames import need_frame
from bodybars.renamings import renamed, renaming_back, renaming_then, turned


def cell_ranks(frame):
    """For each two bodies a number: the greater, the greater their CELL is as a tuple."""
    many = frame[1]
    kinds = {(one, other): [] for one in range(many) for other in range(many)}
    for kind, one, other in frame[2]:
        kinds[(one, other)].append(kind)
        kinds[(other, one)].append(kind)
    cells = {ends: tuple(sorted(row)) for ends, row in kinds.items()}
    ranks = {cell: rank for rank, cell in enumerate(sorted(cells.values()))}
    return {ends: ranks[cell] for ends, cell in cells.items()}


def greatest_numberings(frame):
    """All NUMBERINGS that have the greatest TABLE, ascending."""
    ranks = cell_ranks(frame)
    begun = [(body,) for body in range(frame[1])]
    for _ in range(1, frame[1]):
        begun = best_continued(frame[1], ranks, begun)
    return begun


def best_continued(many, ranks, begun):
    """Of NUMBERINGS that are begun: those with one body more whose next row is the greatest.

    A lesser row can't be made up for later: TABLES are compared row by row."""
    best, continued = (), []
    for bodies in begun:
        for body in range(many):
            if body in bodies:
                continue
            row = tuple([ranks[(body, ahead)] for ahead in bodies])
            if row > best:
                best, continued = row, []
            if row == best:
                continued.append(bodies + (body,))
    return continued


def one_form(frame):
    """The pair of the ONE FORM and the RENAMING that makes it."""
    need_frame(frame)
    bodies = turned(greatest_numberings(frame)[0])
    places = []
    for old, (kind, one, other) in enumerate(frame[2]):
        ends = (bodies[one], bodies[other])
        places.append((max(ends), min(ends), kind, old))
    order = tuple([place[3] for place in sorted(places)])
    return (renamed(frame, (bodies, order)), (bodies, order))


def like_renaming(one, other):
    """The RENAMING that makes other of one by their ONE FORMS, None if these are unlike."""
    need_frame(one)
    need_frame(other)
    form, there = one_form(one)
    other_form, back = one_form(other)
    if form != other_form:
        return None
    return renaming_then(there, renaming_back(back))
