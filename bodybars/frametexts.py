"""Texts of FRAMES and of PARTINGS ([37], [39])."""

from bodybars.basics import is_numeral, need_many, need_no_fault, rows_of
from bodybars.frames import MOST_JOINTS, need_frame
from bodybars.kinds import is_kind
from bodybars.partings import need_lone_parting


def frame_text(frame):
    """The text of a FRAME."""
    dimension, many, joints = need_frame(frame)
    lines = [f"{kind} {one} {other}" for kind, one, other in joints]
    return "\n".join([f"frame {dimension} {many}", *lines])


def read_frame(text):
    """The FRAME that a text tells; BadText(line, word) by its first fault."""
    need_no_fault(frame_text_fault(text))
    head, *lines = rows_of(text)
    joints = tuple([(kind, int(one), int(other)) for kind, one, other in lines])
    return (int(head[1]), int(head[2]), joints)


def frame_text_fault(text):
    """The first fault of a text that should be that of a FRAME, None without one."""
    if type(text) is not str:
        return (None, None)
    head, *lines = rows_of(text)
    word = head_fault(head)
    if word is not None:
        return (0, word)
    dimension, many = int(head[1]), int(head[2])
    for line, words in enumerate(lines, start=1):
        if many == 1 or line > MOST_JOINTS:
            return (line, 0)
        word = joint_line_fault(dimension, many, words)
        if word is not None:
            return (line, word)
    return None


def head_fault(words):
    """The first wrong word of the line "frame D MANY", or its end; None without one."""
    if words[0] != "frame":
        return 0
    if len(words) < 2 or words[1] not in ("1", "3", "6"):
        return 1
    if len(words) < 3 or not is_numeral(words[2], 1, 8):
        return 2
    return None if len(words) == 3 else 3


def joint_line_fault(dimension, many, words):
    """The first wrong word of the line "KIND A B", or its end; None without one."""
    if not is_kind(dimension, words[0]):
        return 0
    if len(words) < 2 or not is_numeral(words[1], 0, many - 2):
        return 1
    if len(words) < 3 or not is_numeral(words[2], int(words[1]) + 1, many - 1):
        return 2
    return None if len(words) == 3 else 3


def parting_text(parting):
    """The text of a PARTING."""
    need_lone_parting(parting)
    return " ".join(["lots", *[str(lot) for lot in parting]])


def read_parting(many, text):
    """The PARTING of many bodies that a text tells; BadText(line, word) by its first fault."""
    need_no_fault(parting_text_fault(many, text))
    return tuple([int(word) for word in text.split(" ")[1:]])


def parting_text_fault(many, text):
    """The first fault of a text that should be that of a PARTING of many bodies, None without one."""
    need_many(many)
    if type(text) is not str:
        return (None, None)
    rows = rows_of(text)
    word = lots_fault(many, rows[0])
    if word is not None:
        return (0, word)
    return None if len(rows) == 1 else (1, 0)


def lots_fault(many, words):
    """The first wrong word of the line "lots ..", or its end; None without one."""
    if words[0] != "lots":
        return 0
    lots = 0
    for at in range(1, many + 1):
        if at >= len(words) or not is_numeral(words[at], 0, lots):
            return at
        lots = max(lots, int(words[at]) + 1)
    return None if len(words) == many + 1 else many + 1
