"""Texts of PACKINGS ([38], [39])."""

from bodybars.basics import is_numeral, joint_lines_fault, need_no_fault, rows_of
from bodybars.frames import need_frame
from bodybars.kinds import size_of
from bodybars.packings import bare_woods, first_unfit, need_packing


def packing_text(frame, packing):
    """The text of a PACKING."""
    need_packing(frame, packing)
    lines = [" ".join(["joint", *[str(number) for number in numbers]]) for numbers in packing]
    return "\n".join(["packing", *lines])


def read_packing(frame, text):
    """The PACKING that a text tells; BadText(line, word) by its first fault."""
    need_no_fault(packing_text_fault(frame, text))
    return tuple([tuple([int(word) for word in words[1:]]) for words in rows_of(text)[1:]])


def packing_text_fault(frame, text):
    """The first fault of a text that should be that of a PACKING, None without one."""
    dimension, many, joints = need_frame(frame)
    if type(text) is not str:
        return (None, None)
    woods = bare_woods(dimension, many)
    return joint_lines_fault(text, "packing", joints, lambda words, joint: numbers_fault(woods, words, joint))


def numbers_fault(woods, words, joint):
    """The first wrong word of the line "joint ..", or its end; None without one.

    The joint is entered into the woods on the way."""
    if words[0] != "joint":
        return 0
    kind, one, other = joint
    numbers = leading_numbers(words[1:], len(woods), size_of(len(woods), kind))
    wrong = first_unfit(woods, numbers, one, other)
    if wrong is not None:
        return wrong + 1
    return None if len(numbers) == len(words) - 1 else len(numbers) + 1


def leading_numbers(words, many, most):
    """The integers below many with which the words begin, at most so many."""
    numbers = []
    for word in words[:most]:
        if not is_numeral(word, 0, many - 1):
            break
        numbers.append(int(word))
    return numbers
