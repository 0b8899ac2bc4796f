"""LOGS: EDITS with EXCHANGES and PARTINGS that answer for RANK, and a judge without any search ([104], [105])."""

from bodybars.basics import is_row, is_whole
from bodybars.bounds import bound_by
from bodybars.errors import BadLog
from bodybars.exchanges import done, exchange_fault, is_formed
from bodybars.frames import MOST_JOINTS
from bodybars.kinds import is_dimension
from bodybars.liveframes import (
    LiveFrame, MOST_EDITS, begun_packing, edit_fault, edited, first_state, state_frame,
)
from bodybars.packings import count_of
from bodybars.partings import parting_fault

MOST_EXCHANGES = 6


def is_log_form(value):
    """Whether value is a triple of a D, how many bodies, and a tuple of at most 200 things."""
    if not is_row(value, 3) or not is_dimension(value[0]) or not is_whole(value[1], 1, 8):
        return False
    return type(value[2]) is tuple and len(value[2]) <= MOST_EDITS


def log_fault(value):
    """The fault of a value that should be a LOG, None of a LOG."""
    return told_log(value, True)[0]


def form_fault(value):
    """The fault of a value that should be a formed LOG: the words "exchange" and "count" are passed over."""
    return told_log(value, False)[0]


def told_log(value, judged):
    """The fault of a LOG, and the first STATE with the steps (EDIT, EXCHANGES, STATE, PACKING) ahead of that fault.

    If it isn't judged the EXCHANGES aren't done."""
    if not is_log_form(value):
        return ((-1, "log"), [])
    dimension, many, entries = value
    steps = [(None, (), first_state(dimension, many), ())]
    for at, entry in enumerate(entries):
        word, step = told_step(steps[-1], at, entry, judged)
        if word != "":
            return ((at, word), steps)
        steps.append(step)
    return (None, steps)


def told_step(ahead, at, entry, judged):
    """The first word that applies to an ENTRY behind so many others, "" if none does, and then its step."""
    word = entry_form_fault(ahead[2], at, entry)
    if word != "":
        return (word, None)
    edit, exchanges, parting = entry
    state = edited(ahead[2], edit)
    frame = state_frame(state)
    packing = begun_packing(ahead[2], ahead[3], edit)
    if judged:
        packing = packing_behind(frame, packing, exchanges)
        if packing is None:
            return ("exchange", None)
    if parting_fault(state[1], parting) is not None:
        return ("parting", None)
    if judged and bound_by(frame, parting, state[0]) != count_of(packing):
        return ("count", None)
    return ("", (edit, exchanges, state, packing))


def packing_behind(frame, packing, exchanges):
    """The PACKING behind the EXCHANGES, None if one of them is none in its turn."""
    for exchange in exchanges:
        if exchange_fault(frame, packing, exchange) != "":
            return None
        packing = done(packing, exchange)
    return packing


def entry_form_fault(state, at, entry):
    """The first word up to "exchanges" that applies to an ENTRY behind so many others, "" if none does."""
    if not is_row(entry, 3):
        return "entry"
    edit, exchanges, parting = entry
    if edit_fault(state, at, edit) is not None:
        return "edit"
    frame = state_frame(edited(state, edit))
    if type(exchanges) is not tuple or len(exchanges) > MOST_EXCHANGES:
        return "exchanges"
    if any(not is_formed(frame, exchange) or len(exchange) > MOST_JOINTS for exchange in exchanges):
        return "exchanges"
    return ""


def need_log_steps(log):
    """The steps of a LOG; BadLog(entry, word) of any other value."""
    fault, steps = told_log(log, True)
    if fault is not None:
        raise BadLog(fault[0], fault[1])
    return steps


def log_ranks(log):
    """RANK behind each ENTRY."""
    return tuple([count_of(packing) for edit, exchanges, state, packing in need_log_steps(log)[1:]])


def live_of_log(log):
    """A LIVE FRAME with the EDITS, EXCHANGES and PACKINGS of the LOG."""
    steps = need_log_steps(log)
    live = LiveFrame(log[0], log[1])
    live.take_steps(steps, [])
    return live
