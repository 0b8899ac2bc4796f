"""RENAMINGS of bodies and joints ([35])."""

from bodybars.basics import is_row, is_whole
from bodybars.errors import BadRenaming, BadRow
from bodybars.frames import need_frame
from bodybars.partings import lots_by_marks, need_lone_parting


def renaming_fault(frame, value):
    """The fault of a value that should be a RENAMING of the frame, None of a RENAMING."""
    need_frame(frame)
    if not is_row(value, 2):
        return ()
    for part, many in enumerate((frame[1], len(frame[2]))):
        fault = part_fault(part, many, value[part])
        if fault is not None:
            return fault
    return None


def part_fault(part, many, value):
    """The fault of BODIES (part 0) or ORDER (part 1) that should have many things."""
    if not is_row(value, many):
        return (part,)
    wrong = first_no_order(value)
    return None if wrong is None else (part, wrong)


def is_order(value, many):
    """Whether value is a tuple that has each number below many once."""
    return part_fault(0, many, value) is None


def first_no_order(row):
    """The first index at which no number below the length stands, or one a second time."""
    seen = {}
    for at, thing in enumerate(row):
        if not is_whole(thing, 0, len(row) - 1) or thing in seen:
            return at
        seen[thing] = True
    return None


def renamed(frame, renaming):
    """The renamed FRAME."""
    fault = renaming_fault(frame, renaming)
    if fault is not None:
        raise BadRenaming(fault)
    bodies, order = renaming
    joints = tuple([renamed_joint(frame[2][old], bodies) for old in order])
    return (frame[0], frame[1], joints)


def renamed_joint(joint, bodies):
    """The joint between the renamed bodies, the lesser one first."""
    kind, one, other = joint
    ends = (bodies[one], bodies[other])
    return (kind, min(ends), max(ends))


def renamed_parting(parting, bodies):
    """The PARTING in which renamed bodies are together exactly if they were."""
    need_lone_parting(parting)
    fault = part_fault(0, len(parting), bodies)
    if fault is not None:
        raise BadRenaming(fault)
    return lots_by_marks([parting[old] for old in turned(bodies)])


def renamed_row(row, order):
    """The row of things for the joints, renamed by order."""
    if type(row) is not tuple:
        raise BadRow(-1)
    fault = part_fault(1, len(row), order)
    if fault is not None:
        raise BadRenaming(fault)
    return tuple([row[old] for old in order])


def turned(order):
    """The order that leads back."""
    back = [0] * len(order)
    for at, thing in enumerate(order):
        back[thing] = at
    return tuple(back)


def need_any_renaming(value):
    """A pair of orders of any lengths; BadRenaming(place) of any other value."""
    if not is_row(value, 2):
        raise BadRenaming(())
    for part, row in enumerate(value):
        if type(row) is not tuple:
            raise BadRenaming((part,))
        wrong = first_no_order(row)
        if wrong is not None:
            raise BadRenaming((part, wrong))
    return value


def renaming_back(renaming):
    """The RENAMING that makes the FRAME of the renamed one."""
    bodies, order = need_any_renaming(renaming)
    return (turned(bodies), turned(order))


def renaming_then(first, second):
    """The RENAMING that does what first does and then second."""
    need_any_renaming(first)
    need_any_renaming(second)
    for part in range(2):
        if len(first[part]) != len(second[part]):
            raise BadRenaming((part,))
    bodies = tuple([second[0][body] for body in first[0]])
    order = tuple([first[1][old] for old in second[1]])
    return (bodies, order)
