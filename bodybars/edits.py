"""STATES of LIVE FRAMES, EDITS and their faults, and what an EDIT does ([100], [103])."""

from bodybars.basics import is_row
from bodybars.exchanges import done, shortest_exchange
from bodybars.frames import MOST_JOINTS, joint_fault, joint_sizes
from bodybars.placements import is_placed, places_asked

LENGTHS = {"body": 1, "join": 4, "part": 2, "place": 3}
MOST_BODIES = 8
MOST_EDITS = 200


def first_state(dimension, many):
    """The STATE with so many bodies and no joints."""
    return (dimension, many, 0, ())


def state_frame(state):
    """The FRAME of a STATE."""
    return (state[0], state[1], tuple([row[1:4] for row in state[3]]))


def state_placement(state):
    """The PLACEMENT of all THINGS, None if a joint isn't placed."""
    things = tuple([row[4] for row in state[3]])
    return None if None in things else things


def state_tags(state):
    """The TAGS of the joints, ascending."""
    return tuple([row[0] for row in state[3]])


def may_be_loose(dimension, kind):
    """Whether a joint of this kind may be not placed."""
    return places_asked(dimension, kind) > 0


def has_room(state, many, word):
    """Whether an EDIT with this word finds room at the STATE behind so many EDITS."""
    if many >= MOST_EDITS or word == "body" and state[1] == MOST_BODIES:
        return False
    return word != "join" or len(state[3]) < MOST_JOINTS


def edit_fault(state, many, value):
    """The fault of a value that should be an EDIT at the STATE behind so many EDITS, None of one."""
    if type(value) is not tuple or len(value) == 0:
        return ("edit", ())
    word = value[0]
    if type(word) is not str or word not in LENGTHS:
        return ("word", (0,))
    if not is_row(value, LENGTHS[word]):
        return ("long", ())
    if not has_room(state, many, word):
        return ("room", ())
    if word == "join":
        fault = joint_fault(state[0], state[1], value[1:])
        return None if fault is None else (fault[0], (fault[1][0] + 1,))
    return None if word == "body" else tag_fault(state, value)


def tag_fault(state, value):
    """The fault of the TAG, then of the THING, of an EDIT with a TAG."""
    tags = state_tags(state)
    if type(value[1]) is not int or value[1] not in tags:
        return ("tag", (1,))
    if value[0] == "part" or fits(state[0], state[3][tags.index(value[1])][1], value[2]):
        return None
    return ("thing", (2,))


def fits(dimension, kind, thing):
    """Whether the thing may be that of a joint of this kind."""
    if thing is None:
        return may_be_loose(dimension, kind)
    return is_placed(dimension, kind, thing)


def edited(state, edit):
    """The STATE behind what is known to be an EDIT."""
    dimension, many, tag, rows = state
    word = edit[0]
    if word == "body":
        return (dimension, many + 1, tag, rows)
    if word == "join":
        thing = None if may_be_loose(dimension, edit[1]) else ()
        return (dimension, many, tag + 1, rows + ((tag,) + edit[1:] + (thing,),))
    at = state_tags(state).index(edit[1])
    changed = () if word == "part" else (rows[at][:4] + (edit[2],),)
    return (dimension, many, tag, rows[:at] + changed + rows[at + 1:])


def begun_packing(state, packing, edit):
    """The PACKING with the entry of a joint more or less, as the EDIT at the STATE asks, ahead of all EXCHANGES."""
    if edit[0] == "join":
        return packing + ((),)
    if edit[0] == "part":
        at = state_tags(state).index(edit[1])
        return packing[:at] + packing[at + 1:]
    return packing


def exchanges_on(frame, packing):
    """The EXCHANGES by which the PACKING becomes greatest, and what it is then."""
    most, told = joint_sizes(frame), []
    exchange = shortest_exchange(frame, most, frame[0], packing)
    while exchange is not None:
        told.append(exchange)
        packing = done(packing, exchange)
        exchange = shortest_exchange(frame, most, frame[0], packing)
    return (tuple(told), packing)
