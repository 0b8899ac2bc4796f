"""Texts of PLACEMENTS ([38], [39])."""

from bodybars.basics import is_numeral, joint_lines_fault, need_no_fault, rows_of
from bodybars.frames import need_frame
from bodybars.placements import FARTHEST, need_placement, place_width, places_asked


def placement_text(frame, placement):
    """The text of a PLACEMENT."""
    need_placement(frame, placement)
    lines = [thing_line(frame[0], joint[0], thing) for joint, thing in zip(frame[2], placement)]
    return "\n".join(["placement", *lines])


def thing_line(dimension, kind, thing):
    """The line for a joint of this kind that the thing places."""
    asked = places_asked(dimension, kind)
    if asked == 0:
        return "held"
    if asked == 1:
        return " ".join(["at", *place_words(thing)])
    return " ".join(["from", *place_words(thing[0]), "to", *place_words(thing[1])])


def place_words(place):
    """The coordinates of a PLACE as words."""
    return [str(number) for number in place]


def read_placement(frame, text):
    """The PLACEMENT that a text tells; BadText(line, word) by its first fault."""
    need_no_fault(placement_text_fault(frame, text))
    return tuple([told_thing(words) for words in rows_of(text)[1:]])


def told_thing(words):
    """The thing for a joint that a line tells."""
    if words[0] == "held":
        return ()
    if words[0] == "at":
        return told_place(words[1:])
    middle = words.index("to")
    return (told_place(words[1:middle]), told_place(words[middle + 1:]))


def told_place(words):
    """The PLACE with these coordinates."""
    return tuple([int(word) for word in words])


def placement_text_fault(frame, text):
    """The first fault of a text that should be that of a PLACEMENT, None without one."""
    dimension, many, joints = need_frame(frame)
    if type(text) is not str:
        return (None, None)
    return joint_lines_fault(text, "placement", joints, lambda words, joint: thing_fault(dimension, joint[0], words))


def thing_fault(dimension, kind, words):
    """The first wrong word of the line for a joint of this kind, or its end; None without one."""
    due = due_words(dimension, kind)
    for at, word in enumerate(due):
        if at >= len(words) or not is_fit(word, words[at]):
            return at
    width = place_width(dimension)
    last = len(due) - 1
    if "to" in due and words[1:width + 1] == words[width + 2:last + 1]:
        return last
    return None if len(words) == len(due) else len(due)


def is_fit(due, word):
    """Whether the word is the one that is due; None stands for any coordinate."""
    if due is None:
        return is_numeral(word, -FARTHEST, FARTHEST)
    return word == due


def due_words(dimension, kind):
    """The words of the line for a joint of this kind, None standing for any coordinate."""
    asked = places_asked(dimension, kind)
    if asked == 0:
        return ["held"]
    place = [None] * place_width(dimension)
    return ["at", *place] if asked == 1 else ["from", *place, "to", *place]
