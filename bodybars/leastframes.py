"""LEAST STIFF FRAMES, thinned ones, and the LEAST STIFF CLASSES of few bodies ([117])."""

from itertools import combinations

from bodybars.basics import is_whole
from bodybars.bounds import bound_by
from bodybars.circles import spared_by
from bodybars.errors import BadNumber, BadOrder, NotStiff
from bodybars.fillings import free_by
from bodybars.frames import need_frame
from bodybars.kinds import kinds_of, need_dimension, size_of
from bodybars.losses import falls, without_by
from bodybars.oneform import one_form
from bodybars.partingnumbers import all_partings
from bodybars.renamings import is_order


def is_least_stiff(frame):
    """Whether the frame is LEAST STIFF."""
    need_frame(frame)
    return free_by(frame) == 0 and all(number > 0 for number in falls(frame))


def thinned(frame, order):
    """What is left of a stiff FRAME: along the order each joint goes without which it stays stiff."""
    need_frame(frame)
    if not is_order(order, len(frame[2])):
        raise BadOrder(order)
    free = free_by(frame)
    if free > 0:
        raise NotStiff(free)
    # What is stiff stays so exactly if its RANK stays as it is.
    return without_by(frame, spared_by(frame, order))


def least_classes(dimension, many):
    """The LEAST STIFF CLASSES of one, two or three bodies, ascending."""
    need_dimension(dimension)
    if not is_whole(many, 1, 3):
        raise BadNumber(many)
    rows = [()]
    for one, other in combinations(range(many), 2):
        cells = [tuple([(kind, one, other) for kind in cell]) for cell in least_cells(dimension)]
        rows = [row + cell for row in rows for cell in cells]
    frames = [(dimension, many, row) for row in rows]
    return tuple(sorted(set([one_form(frame)[0] for frame in frames if is_least_by(frame)])))


def least_cells(dimension):
    """The rows of KINDS that may lie between two bodies of a LEAST STIFF FRAME.

    With SIZES of D and more together any two bodies are stiff: so each joint of a row is needed to reach D."""
    told = [((), 0)]
    cells = [()]
    while told:
        longer = []
        for row, total in told:
            for kind in kinds_of(dimension):
                size = size_of(dimension, kind)
                # The KINDS come by falling SIZES: so the last joint is the one that is missed least.
                if total < dimension and (not row or size <= size_of(dimension, row[-1])):
                    longer.append((row + (kind,), total + size))
        cells.extend([row for row, total in longer])
        told = longer
    return cells


def is_least_by(frame):
    """Whether a FRAME of few bodies is LEAST STIFF, by its PARTINGS."""
    if not is_stiff_by(frame):
        return False
    return not any(is_stiff_by(without_by(frame, [joint])) for joint in range(len(frame[2])))


def is_stiff_by(frame):
    """Whether no PARTING has a BOUND below that of one lot."""
    return all(bound_by(frame, parting, frame[0]) >= frame[0] * (frame[1] - 1) for parting in all_partings(frame[1]))
