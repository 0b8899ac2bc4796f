"""Small checks and steps that several files share; nothing here is part of the interface."""

from itertools import combinations

from bodybars.errors import BadBody, BadJoint, BadNumber, BadText

DIGITS = "0123456789"


def is_whole(value, least, most):
    """Whether value is an integer from least to most; True and False are none ([1])."""
    return type(value) is int and least <= value <= most


def is_row(value, many):
    """Whether value is a tuple of so many things."""
    return type(value) is tuple and len(value) == many


def are_integers(value, many):
    """Whether value is a tuple of so many integers."""
    return is_row(value, many) and all(type(number) is int for number in value)


def is_ascending(value, many):
    """Whether value is an ascending tuple of integers from 0 to many - 1."""
    if type(value) is not tuple:
        return False
    least = 0
    for thing in value:
        if not is_whole(thing, least, many - 1):
            return False
        least = thing + 1
    return True


def all_pairs(many):
    """All pairs (A, B) of many bodies, A < B, ascending."""
    return list(combinations(range(many), 2))


def need_many(many):
    """How many bodies; BadNumber(many) unless it is an integer from 1 to 8."""
    if not is_whole(many, 1, 8):
        raise BadNumber(many)
    return many


def need_numbers(frame, numbers):
    """K ([41]) of the keyword numbers: None stands for D."""
    if numbers is None:
        return frame[0]
    if not is_whole(numbers, 0, frame[0]):
        raise BadNumber(numbers)
    return numbers


def need_body(frame, value):
    """The number of a body of the frame."""
    if not is_whole(value, 0, frame[1] - 1):
        raise BadBody(value)
    return value


def need_joint(frame, value):
    """The number of a joint of the frame."""
    if not is_whole(value, 0, len(frame[2]) - 1):
        raise BadJoint(value)
    return value


def join_marks(marks, one, other):
    """Gives the bodies together with either the same mark; whether both were apart before."""
    kept, gone = marks[one], marks[other]
    for body, mark in enumerate(list(marks)):
        if mark == gone:
            marks[body] = kept
    return kept != gone


def rows_of(text):
    """The words of each line of a text."""
    return [line.split(" ") for line in text.split("\n")]


def is_numeral(word, least, most):
    """Whether a word is an integer from least to most, as texts write it ([37])."""
    # A longer word isn't read at all: Python refuses to make integers of very long ones.
    if len(word) > max(len(str(least)), len(str(most))):
        return False
    digits = word.removeprefix("-")
    if digits == "" or not all(sign in DIGITS for sign in digits):
        return False
    return str(int(word)) == word and least <= int(word) <= most


def need_no_fault(fault):
    """BadText(line, word) by the first fault of a text, if it has one."""
    if fault is not None:
        raise BadText(fault[0], fault[1])


def joint_lines_fault(text, title, joints, line_fault):
    """The first fault of a text with the line title and then a line for each joint.

    line_fault(words, joint) tells the first wrong word of such a line, None without one."""
    head, *lines = rows_of(text)
    if head != [title]:
        return (0, 0) if head[0] != title else (0, 1)
    for line, (words, joint) in enumerate(zip(lines, joints), start=1):
        word = line_fault(words, joint)
        if word is not None:
            return (line, word)
    if len(lines) == len(joints):
        return None
    return (min(len(lines), len(joints)) + 1, 0)
