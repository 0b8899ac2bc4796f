"""SQUARE lots: by each of them PURE is a product ([97])."""

from itertools import combinations

from bodybars.errors import NotSquare
from bodybars.frames import joint_sizes, need_frame, own_frame
from bodybars.partings import lots_by_marks
from bodybars.placements import need_placement
from bodybars.pures import pure_by
from bodybars.squares import is_square, need_square, row_ends, rows_due, sign_of
from bodybars.stifflots import laid_by


def square_lots(frame):
    """The SQUARE lots of at least 2 and at most MANY - 1 bodies, ascending."""
    need_frame(frame)
    bodies = list(range(frame[1]))
    told = []
    for many in range(2, frame[1]):
        told.extend([lot for lot in combinations(bodies, many) if is_square(own_frame(frame, lot))])
    return tuple(sorted(told))


def laid_frame(frame, bodies):
    """The FRAME laid together at the lot."""
    own_frame(frame, bodies)
    return laid_at(frame, bodies)


def laid_at(frame, bodies):
    """The same of what is known to be a lot."""
    return laid_by(frame, lots_by_marks([-1 if body in bodies else body for body in range(frame[1])]))


def lies_within(joint, bodies):
    """Whether both bodies of the joint are in the lot."""
    return joint[1] in bodies and joint[2] in bodies


def laid_placement(frame, placement, bodies):
    """What places the joints of the FRAME laid together."""
    need_placement(frame, placement)
    own_frame(frame, bodies)
    return tuple([thing for joint, thing in zip(frame[2], placement) if not lies_within(joint, bodies)])


def own_placement(frame, placement, bodies):
    """What places the joints of the own frame."""
    need_placement(frame, placement)
    own_frame(frame, bodies)
    return tuple([thing for joint, thing in zip(frame[2], placement) if lies_within(joint, bodies)])


def need_square_lot(frame, bodies):
    """A SQUARE lot of a SQUARE FRAME."""
    need_square(frame)
    rows, due = rows_due(own_frame(frame, bodies))
    if rows != due:
        raise NotSquare(rows, due)


def factor_sign(frame, bodies):
    """SIGN of a SQUARE lot."""
    need_square_lot(frame, bodies)
    return sign_by(frame, bodies)


def sign_by(frame, bodies):
    """SIGN of what is known to be a SQUARE lot of a SQUARE FRAME."""
    ends = list(enumerate(row_ends(frame)))
    within = [row for row, (one, other) in ends if one in bodies and other in bodies]
    rows = within + [row for row, pair in ends if row not in within]
    moved = [*bodies[1:], *[body for body in range(frame[1]) if body not in bodies]]
    sign = sign_of(rows) * (sign_of(moved) if frame[0] % 2 == 1 else 1)
    for (kind, one, other), size in zip(frame[2], joint_sizes(frame)):
        # Laid together, the lot has the number of its least body: such a joint's bodies change their order.
        if other in bodies and one not in bodies and one > bodies[0] and size % 2 == 1:
            sign = -sign
    return sign


def factored(frame, placement, bodies):
    """The triple (SIGN, PURE of the own frame, PURE of the FRAME laid together)."""
    need_placement(frame, placement)
    need_square_lot(frame, bodies)
    own = pure_by(own_frame(frame, bodies), own_placement(frame, placement, bodies), 0)
    laid = pure_by(laid_at(frame, bodies), laid_placement(frame, placement, bodies), 0)
    return (sign_by(frame, bodies), own, laid)
