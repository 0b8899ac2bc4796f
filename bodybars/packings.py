"""PACKINGS of joints into woods ([11], [34])."""

from bodybars.basics import is_row, is_whole, join_marks
from bodybars.errors import BadPacking
from bodybars.frames import need_frame
from bodybars.kinds import size_of


def packing_fault(frame, value):
    """The fault of a value that should be a PACKING of the frame, None of a PACKING."""
    return packing_fault_by(need_frame(frame), value)


def packing_fault_by(frame, value):
    """The same for what would be a FRAME but for its number of joints."""
    dimension, many, joints = frame
    if not is_row(value, len(joints)):
        return ()
    woods = bare_woods(dimension, many)
    for at, (kind, one, other) in enumerate(joints):
        numbers = value[at]
        if type(numbers) is not tuple or len(numbers) > size_of(dimension, kind):
            return (at,)
        wrong = first_unfit(woods, numbers, one, other)
        if wrong is not None:
            return (at, wrong)
    return None


def bare_woods(numbers, many):
    """For each number marks that tell which bodies its wood joins: none as yet."""
    return [list(range(many)) for number in range(numbers)]


def first_unfit(woods, numbers, one, other):
    """The first place at which a number of a joint from one to other doesn't fit, None without one.

    The joint is entered into the woods on the way."""
    least = 0
    for place, number in enumerate(numbers):
        if not is_whole(number, least, len(woods) - 1):
            return place
        if not join_marks(woods[number], one, other):
            return place
        least = number + 1
    return None


def is_packing(frame, value):
    """Whether value is a PACKING of the frame."""
    return packing_fault(frame, value) is None


def need_packing(frame, value):
    """The PACKING; BadPacking(place) of any other value."""
    fault = packing_fault(frame, value)
    if fault is not None:
        raise BadPacking(fault)
    return value


def count_of(packing):
    """COUNT: how many numbers the PACKING has in all."""
    return sum(len(numbers) for numbers in packing)
