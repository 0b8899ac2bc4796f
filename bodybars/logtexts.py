"""Texts of formed LOGS ([105], [106])."""

from bodybars.basics import is_numeral, need_no_fault, rows_of
from bodybars.errors import BadLog
from bodybars.framelogs import MOST_EXCHANGES, form_fault
from bodybars.frames import MOST_JOINTS
from bodybars.frametexts import head_fault, joint_line_fault, lots_fault, parting_text
from bodybars.liveframes import MOST_EDITS, edited, first_state, has_room, may_be_loose, state_tags
from bodybars.placementtexts import thing_fault, thing_line, told_thing


def log_text(log):
    """The text of a formed LOG; BadLog(entry, word) of any other value."""
    fault = form_fault(log)
    if fault is not None:
        raise BadLog(fault[0], fault[1])
    dimension, many, entries = log
    state = first_state(dimension, many)
    lines = [f"live {dimension} {many}"]
    for edit, exchanges, parting in entries:
        lines.append(edit_line(state, edit))
        lines.extend([exchange_line(exchange) for exchange in exchanges])
        lines.append(parting_text(parting))
        state = edited(state, edit)
    return "\n".join(lines)


def edit_line(state, edit):
    """The line of an EDIT at the STATE."""
    if edit[0] != "place":
        return " ".join([str(thing) for thing in edit])
    thing = "none" if edit[2] is None else thing_line(state[0], kind_of(state, edit[1]), edit[2])
    return f"place {edit[1]} {thing}"


def kind_of(state, tag):
    """The KIND of the joint with this TAG."""
    return state[3][state_tags(state).index(tag)][1]


def exchange_line(exchange):
    """The line of an EXCHANGE."""
    return " ".join(["exchange", *[f"{joint} {number}" for joint, number in exchange]])


def read_log(text):
    """The formed LOG that a text tells; BadText(line, word) by its first fault."""
    need_no_fault(log_text_fault(text))
    head, *lines = rows_of(text)
    entries = []
    exchanges = []
    edit = ()
    for words in lines:
        if words[0] == "exchange":
            exchanges.append(told_exchange(words))
        elif words[0] == "lots":
            entries.append((edit, tuple(exchanges), tuple([int(word) for word in words[1:]])))
            exchanges = []
        else:
            edit = told_edit(words)
    return (int(head[1]), int(head[2]), tuple(entries))


def told_exchange(words):
    """The EXCHANGE that a line tells."""
    numbers = [int(word) for word in words[1:]]
    return tuple(list(zip(numbers[::2], numbers[1::2])))


def told_edit(words):
    """The EDIT that a line tells."""
    if words[0] == "body":
        return ("body",)
    if words[0] == "join":
        return ("join", words[1], int(words[2]), int(words[3]))
    if words[0] == "part":
        return ("part", int(words[1]))
    return ("place", int(words[1]), None if words[2] == "none" else told_thing(words[2:]))


def log_text_fault(text):
    """The first fault of a text that should be that of a formed LOG, None without one."""
    if type(text) is not str:
        return (None, None)
    head, *lines = rows_of(text)
    if head[0] != "live":
        return (0, 0)
    word = head_fault(["frame", *head[1:]])
    if word is not None:
        return (0, word)
    return lines_fault(first_state(int(head[1]), int(head[2])), lines)


def lines_fault(state, lines):
    """The first fault of the lines behind the first one."""
    entries, exchanges, within = 0, 0, False
    for line, words in enumerate(lines, start=1):
        if not within:
            word = edit_line_fault(state, entries, words)
        elif words[0] == "exchange" and state[3] and exchanges < MOST_EXCHANGES:
            word = exchange_line_fault(state, words)
            exchanges += 1
        else:
            word = lots_fault(state[1], words)
        if word is not None:
            return (line, word)
        if not within:
            state, exchanges, within = edited(state, told_edit(words)), 0, True
        elif words[0] == "lots":
            entries, within = entries + 1, False
    return (len(lines) + 1, 0) if within else None


def edit_line_fault(state, many, words):
    """The first wrong word of the line of an EDIT at the STATE behind so many others, or its end; None without one."""
    word = words[0]
    if word not in ("body", "join", "part", "place") or not has_room(state, many, word):
        return 0
    if word == "body":
        return None if len(words) == 1 else 1
    if word == "join":
        return join_line_fault(state, words)
    return tag_line_fault(state, words) if state[3] else 0


def join_line_fault(state, words):
    """The same of the line "join KIND A B"."""
    if state[1] == 1:
        return 0
    if len(words) == 1:
        return 1
    wrong = joint_line_fault(state[0], state[1], words[1:])
    return None if wrong is None else wrong + 1


def tag_line_fault(state, words):
    """The same of a line with a TAG."""
    if len(words) < 2 or not is_numeral(words[1], 0, MOST_EDITS) or int(words[1]) not in state_tags(state):
        return 1
    if words[0] == "part":
        return None if len(words) == 2 else 2
    kind = kind_of(state, int(words[1]))
    if words[2:3] == ["none"] and may_be_loose(state[0], kind):
        return None if len(words) == 3 else 3
    wrong = thing_fault(state[0], kind, words[2:])
    return None if wrong is None else wrong + 2


def exchange_line_fault(state, words):
    """The first wrong word of the line "exchange ..", or its end; None without one."""
    joints = len(state[3])
    for at in range(1, min(len(words), 2 * MOST_JOINTS + 1)):
        most = joints - 1 if at % 2 == 1 else state[0] - 1
        if not is_numeral(words[at], 0, most):
            return at
    if len(words) > 2 * MOST_JOINTS + 1:
        return 2 * MOST_JOINTS + 1
    return None if len(words) > 1 and len(words) % 2 == 1 else len(words)
