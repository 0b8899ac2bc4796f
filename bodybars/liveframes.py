"""LIVE FRAMES, which change by EDITS and keep a greatest PACKING ([100] to [104])."""

from bodybars.basics import is_whole, need_many
from bodybars.edits import (
    begun_packing, edit_fault, edited, exchanges_on, first_state, state_frame, state_placement, state_tags,
)
from bodybars.errors import BadEdit, BadEdits, BadNumber
from bodybars.extremes import coarsest_by
from bodybars.kinds import need_dimension
from bodybars.packings import count_of
from bodybars.placed import left_at


def step_behind(step, edit):
    """The step (EDIT, EXCHANGES, STATE, PACKING) that an EDIT makes behind another step."""
    state = edited(step[2], edit)
    exchanges, packing = exchanges_on(state_frame(state), begun_packing(step[2], step[3], edit))
    return (edit, exchanges, state, packing)


def news_of(ahead, step):
    """The news of the EDIT of a step, told by the step ahead of it, too."""
    edit, exchanges, state, packing = step
    if edit[0] == "body":
        return ("body", state[0] * (state[1] - 1) - count_of(packing))
    if edit[0] == "place":
        return ("place", edit[1], left_by(state))
    rise = count_of(packing) - count_of(ahead[3])
    return ("join", ahead[2][2], rise) if edit[0] == "join" else ("part", edit[1], -rise)


def left_by(state):
    """LEFT at the PLACEMENT of all THINGS, None if a joint isn't placed."""
    placement = state_placement(state)
    return None if placement is None else left_at(state_frame(state), placement)


def need_edit(state, many, edit):
    """An EDIT at the STATE behind so many EDITS; BadEdit(word, place) of any other value."""
    fault = edit_fault(state, many, edit)
    if fault is not None:
        raise BadEdit(fault[0], fault[1])
    return edit


class LiveFrame:
    """Bodies, and joints that come and go.

    _steps has the first STATE and then the steps of the PAST, _ahead the steps that were undone; steps never change."""

    def __init__(self, dimension, many):
        state = first_state(need_dimension(dimension), need_many(many))
        self._steps = [(None, (), state, ())]
        self._ahead = []

    def state(self):
        """The STATE."""
        return self._steps[-1][2]

    def frame(self):
        """The FRAME of the STATE."""
        return state_frame(self.state())

    def tags(self):
        """The TAGS of the joints, ascending."""
        return state_tags(self.state())

    def has(self, tag):
        """Whether any value is the TAG of a joint that is there."""
        return type(tag) is int and tag in self.tags()

    def packing(self):
        """The kept PACKING, a greatest one."""
        return self._steps[-1][3]

    def parting(self):
        """The coarsest least PARTING."""
        return coarsest_by(self.frame(), self.packing(), self.state()[0])

    def rank(self):
        """RANK."""
        return count_of(self.packing())

    def free(self):
        """FREE."""
        dimension, many, tag, rows = self.state()
        return dimension * (many - 1) - self.rank()

    def placement(self):
        """The PLACEMENT of all THINGS, None if a joint isn't placed."""
        return state_placement(self.state())

    def left(self):
        """LEFT at that PLACEMENT, None if a joint isn't placed."""
        return left_by(self.state())

    def fault(self, edit):
        """The fault of any value as an EDIT, None of one that can be done."""
        return edit_fault(self.state(), len(self._steps) - 1, edit)

    def do(self, edit):
        """Does the EDIT and empties AHEAD; the news. BadEdit(word, place) of what is none."""
        need_edit(self.state(), len(self._steps) - 1, edit)
        step = step_behind(self._steps[-1], edit)
        news = news_of(self._steps[-1], step)
        self._steps.append(step)
        self._ahead = []
        return news

    def undo(self, many=1):
        """The last EDITS leave the PAST for AHEAD; a tuple of them, the latest first."""
        if not is_whole(many, 1, len(self._steps) - 1):
            raise BadNumber(many)
        kept = len(self._steps) - many
        gone = self._steps[kept:]
        self._steps = self._steps[:kept]
        self._ahead = gone + self._ahead
        return tuple([step[0] for step in gone[::-1]])

    def redo(self, many=1):
        """The first EDITS of AHEAD are done again; a tuple of them, in order."""
        if not is_whole(many, 1, len(self._ahead)):
            raise BadNumber(many)
        again = self._ahead[:many]
        self._steps = self._steps + again
        self._ahead = self._ahead[many:]
        return tuple([step[0] for step in again])

    def tried(self, edits):
        """The news that do would tell of each of the EDITS in turn; nothing changes."""
        if type(edits) is not tuple:
            raise BadEdits()
        told, ahead = [], self._steps[-1]
        for at, edit in enumerate(edits, start=len(self._steps) - 1):
            step = step_behind(ahead, need_edit(ahead[2], at, edit))
            told.append(news_of(ahead, step))
            ahead = step
        return tuple(told)

    def twin(self):
        """Another LIVE FRAME with the same PAST and AHEAD."""
        state = self._steps[0][2]
        other = LiveFrame(state[0], state[1])
        other.take_steps(self._steps, self._ahead)
        return other

    def take_steps(self, steps, ahead):
        """Takes over the steps of the PAST, behind the first STATE, and those of AHEAD."""
        self._steps = list(steps)
        self._ahead = list(ahead)

    def log(self):
        """The LOG with the EDITS of the PAST, their EXCHANGES and the coarsest least PARTINGS."""
        dimension, many, tag, rows = self._steps[0][2]
        entries = []
        for edit, exchanges, state, packing in self._steps[1:]:
            entries.append((edit, exchanges, coarsest_by(state_frame(state), packing, dimension)))
        return (dimension, many, tuple(entries))
