"""LIVE FRAMES: their STATES, the EDITS that change them, and the PACKING that they keep ([100] to [104])."""

from bodybars.basics import is_row, is_whole, need_many
from bodybars.errors import BadEdit, BadEdits, BadNumber
from bodybars.exchanges import done, shortest_exchange
from bodybars.extremes import coarsest_by
from bodybars.frames import MOST_JOINTS, joint_fault, joint_sizes
from bodybars.kinds import need_dimension
from bodybars.packings import count_of
from bodybars.placed import left_at
from bodybars.placements import is_placed, places_asked

LENGTHS = {"body": 1, "join": 4, "part": 2, "place": 3}
MOST_BODIES = 8
MOST_EDITS = 200


def first_state(dimension, many):
    """The STATE with so many bodies and no joints."""
    return (dimension, many, 0, ())


def state_frame(state):
    """The FRAME of a STATE."""
    return (state[0], state[1], tuple([row[1:4] for row in state[3]]))


def state_placement(state):
    """The PLACEMENT of all THINGS, None if a joint isn't placed."""
    things = tuple([row[4] for row in state[3]])
    return None if None in things else things


def state_tags(state):
    """The TAGS of the joints, ascending."""
    return tuple([row[0] for row in state[3]])


def may_be_loose(dimension, kind):
    """Whether a joint of this kind may be not placed."""
    return places_asked(dimension, kind) > 0


def has_room(state, many, word):
    """Whether an EDIT with this word finds room at the STATE behind so many EDITS."""
    if many >= MOST_EDITS or word == "body" and state[1] == MOST_BODIES:
        return False
    return word != "join" or len(state[3]) < MOST_JOINTS


def edit_fault(state, many, value):
    """The fault of a value that should be an EDIT at the STATE behind so many EDITS, None of one."""
    if type(value) is not tuple or len(value) == 0:
        return ("edit", ())
    word = value[0]
    if type(word) is not str or word not in LENGTHS:
        return ("word", (0,))
    if not is_row(value, LENGTHS[word]):
        return ("long", ())
    if not has_room(state, many, word):
        return ("room", ())
    if word == "join":
        fault = joint_fault(state[0], state[1], value[1:])
        return None if fault is None else (fault[0], (fault[1][0] + 1,))
    return None if word == "body" else tag_fault(state, value)


def tag_fault(state, value):
    """The fault of the TAG, then of the THING, of an EDIT with a TAG."""
    tags = state_tags(state)
    if type(value[1]) is not int or value[1] not in tags:
        return ("tag", (1,))
    if value[0] == "part" or fits(state[0], state[3][tags.index(value[1])][1], value[2]):
        return None
    return ("thing", (2,))


def fits(dimension, kind, thing):
    """Whether the thing may be that of a joint of this kind."""
    if thing is None:
        return may_be_loose(dimension, kind)
    return is_placed(dimension, kind, thing)


def edited(state, edit):
    """The STATE behind what is known to be an EDIT."""
    dimension, many, tag, rows = state
    word = edit[0]
    if word == "body":
        return (dimension, many + 1, tag, rows)
    if word == "join":
        thing = None if may_be_loose(dimension, edit[1]) else ()
        return (dimension, many, tag + 1, rows + ((tag,) + edit[1:] + (thing,),))
    at = state_tags(state).index(edit[1])
    changed = () if word == "part" else (rows[at][:4] + (edit[2],),)
    return (dimension, many, tag, rows[:at] + changed + rows[at + 1:])


def begun_packing(state, packing, edit):
    """The PACKING with the entry of a joint more or less, as the EDIT at the STATE asks, ahead of all EXCHANGES."""
    if edit[0] == "join":
        return packing + ((),)
    if edit[0] == "part":
        at = state_tags(state).index(edit[1])
        return packing[:at] + packing[at + 1:]
    return packing


def exchanges_on(frame, packing):
    """The EXCHANGES by which the PACKING becomes greatest, and what it is then."""
    most, told = joint_sizes(frame), []
    exchange = shortest_exchange(frame, most, frame[0], packing)
    while exchange is not None:
        told.append(exchange)
        packing = done(packing, exchange)
        exchange = shortest_exchange(frame, most, frame[0], packing)
    return (tuple(told), packing)


def step_behind(step, edit):
    """The step (EDIT, EXCHANGES, STATE, PACKING) that an EDIT makes behind another step."""
    state = edited(step[2], edit)
    exchanges, packing = exchanges_on(state_frame(state), begun_packing(step[2], step[3], edit))
    return (edit, exchanges, state, packing)


def news_of(ahead, step):
    """The news of the EDIT of a step, told by the step ahead of it, too."""
    edit, exchanges, state, packing = step
    if edit[0] == "body":
        return ("body", state[0] * (state[1] - 1) - count_of(packing))
    if edit[0] == "place":
        return ("place", edit[1], left_by(state))
    rise = count_of(packing) - count_of(ahead[3])
    return ("join", ahead[2][2], rise) if edit[0] == "join" else ("part", edit[1], -rise)


def left_by(state):
    """LEFT at the PLACEMENT of all THINGS, None if a joint isn't placed."""
    placement = state_placement(state)
    return None if placement is None else left_at(state_frame(state), placement)


def need_edit(state, many, edit):
    """An EDIT at the STATE behind so many EDITS; BadEdit(word, place) of any other value."""
    fault = edit_fault(state, many, edit)
    if fault is not None:
        raise BadEdit(fault[0], fault[1])
    return edit


class LiveFrame:
    """Bodies, and joints that come and go.

    _steps has the first STATE and then the steps of the PAST, _ahead the steps that were undone; steps never change."""

    def __init__(self, dimension, many):
        state = first_state(need_dimension(dimension), need_many(many))
        self._steps = [(None, (), state, ())]
        self._ahead = []

    def state(self):
        """The STATE."""
        return self._steps[-1][2]

    def frame(self):
        """The FRAME of the STATE."""
        return state_frame(self.state())

    def tags(self):
        """The TAGS of the joints, ascending."""
        return state_tags(self.state())

    def has(self, tag):
        """Whether any value is the TAG of a joint that is there."""
        return type(tag) is int and tag in self.tags()

    def packing(self):
        """The kept PACKING, a greatest one."""
        return self._steps[-1][3]

    def parting(self):
        """The coarsest least PARTING."""
        return coarsest_by(self.frame(), self.packing(), self.state()[0])

    def rank(self):
        """RANK."""
        return count_of(self.packing())

    def free(self):
        """FREE."""
        dimension, many, tag, rows = self.state()
        return dimension * (many - 1) - self.rank()

    def placement(self):
        """The PLACEMENT of all THINGS, None if a joint isn't placed."""
        return state_placement(self.state())

    def left(self):
        """LEFT at that PLACEMENT, None if a joint isn't placed."""
        return left_by(self.state())

    def fault(self, edit):
        """The fault of any value as an EDIT, None of one that can be done."""
        return edit_fault(self.state(), len(self._steps) - 1, edit)

    def do(self, edit):
        """Does the EDIT and empties AHEAD; the news. BadEdit(word, place) of what is none."""
        need_edit(self.state(), len(self._steps) - 1, edit)
        step = step_behind(self._steps[-1], edit)
        news = news_of(self._steps[-1], step)
        self._steps.append(step)
        self._ahead = []
        return news

    def undo(self, many=1):
        """The last EDITS leave the PAST for AHEAD; a tuple of them, the latest first."""
        if not is_whole(many, 1, len(self._steps) - 1):
            raise BadNumber(many)
        kept = len(self._steps) - many
        gone = self._steps[kept:]
        self._steps = self._steps[:kept]
        self._ahead = gone + self._ahead
        return tuple([step[0] for step in gone[::-1]])

    def redo(self, many=1):
        """The first EDITS of AHEAD are done again; a tuple of them, in order."""
        if not is_whole(many, 1, len(self._ahead)):
            raise BadNumber(many)
        again = self._ahead[:many]
        self._steps = self._steps + again
        self._ahead = self._ahead[many:]
        return tuple([step[0] for step in again])

    def tried(self, edits):
        """The news that do would tell of each of the EDITS in turn; nothing changes."""
        if type(edits) is not tuple:
            raise BadEdits()
        told, ahead = [], self._steps[-1]
        for at, edit in enumerate(edits, start=len(self._steps) - 1):
            step = step_behind(ahead, need_edit(ahead[2], at, edit))
            told.append(news_of(ahead, step))
            ahead = step
        return tuple(told)

    def twin(self):
        """Another LIVE FRAME with the same PAST and AHEAD."""
        state = self._steps[0][2]
        other = LiveFrame(state[0], state[1])
        other.take_steps(self._steps, self._ahead)
        return other

    def take_steps(self, steps, ahead):
        """Takes over the steps of the PAST, behind the first STATE, and those of AHEAD."""
        self._steps = list(steps)
        self._ahead = list(ahead)

    def log(self):
        """The LOG with the EDITS of the PAST, their EXCHANGES and the coarsest least PARTINGS."""
        dimension, many, tag, rows = self._steps[0][2]
        entries = []
        for edit, exchanges, state, packing in self._steps[1:]:
            entries.append((edit, exchanges, coarsest_by(state_frame(state), packing, dimension)))
        return (dimension, many, tuple(entries))
