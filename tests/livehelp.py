"""EDITS that are drawn, and STATES by the words of [100] alone."""

from tests.helper import KINDS, draw_placement

LENGTHS = {"body": 1, "join": 4, "part": 2, "place": 3}


def needs_no_place(dimension, kind):
    return dimension == 1 or kind == "weld"


def slow_state(dimension, many, edits):
    """The STATE behind some EDITS."""
    tag, rows = 0, []
    for edit in edits:
        if edit[0] == "body":
            many += 1
        elif edit[0] == "join":
            rows.append([tag, *edit[1:], () if needs_no_place(dimension, edit[1]) else None])
            tag += 1
        elif edit[0] == "part":
            rows = [row for row in rows if row[0] != edit[1]]
        else:
            rows = [[*row[:4], edit[2]] if row[0] == edit[1] else row for row in rows]
    return (dimension, many, tag, tuple(tuple(row) for row in rows))


def draw_thing(rng, dimension, kind):
    if not needs_no_place(dimension, kind) and rng.random() < 0.15:
        return None
    return draw_placement(rng, (dimension, 2, ((kind, 0, 1),)), 3)[0]


def draw_edit(rng, state, parting=0.2):
    """An EDIT that can be done at a STATE, if there is room at all."""
    dimension, many, _, rows = state
    while True:
        chance = rng.random()
        if chance < 0.06 and many < 8:
            return ("body",)
        if chance < parting and rows:
            return ("part", rng.choice(rows)[0])
        if chance < 0.5 and rows:
            row = rng.choice(rows)
            return ("place", row[0], draw_thing(rng, dimension, row[1]))
        if chance >= 0.5 and many > 1 and len(rows) < 40:
            return ("join", rng.choice(KINDS[dimension]), *sorted(rng.sample(range(many), 2)))
        if many == 1 and not rows:
            return ("body",)


def draw_edits(rng, dimension, many, times, parting=0.2):
    edits = []
    for _ in range(times):
        edits.append(draw_edit(rng, slow_state(dimension, many, edits), parting))
    return tuple(edits)


def frame_of(state):
    return (state[0], state[1], tuple(row[1:4] for row in state[3]))
