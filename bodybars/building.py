"""PLANS by which just stiff FRAMES are built, body after body ([85], [86])."""

from bodybars.basics import is_row, is_whole
from bodybars.errors import BadPlan
from bodybars.frames import need_frame
from bodybars.justbars import bars_at, far_end, need_just, trees_by
from bodybars.kinds import need_dimension

MOST_BODIES = 8


def building_plan(frame):
    """A PLAN of the frame: of the bodies with the fewest bars the greatest one comes last, and so on back."""
    dimension, many, joints = need_just(frame)
    bodies = list(range(many))
    pairs = [(one, other) for kind, one, other in joints]
    steps = []
    while len(bodies) > 1:
        body = last_body(bodies, pairs)
        step = step_back(dimension, bodies, pairs, body)
        steps.append(step)
        bodies.remove(body)
        pairs = [pair for pair in pairs if body not in pair] + list(step[1])
    return (bodies[0], tuple(steps[::-1]))


def last_body(bodies, pairs):
    """The greatest of the bodies with the fewest bars."""
    return min([(sum([body in pair for pair in pairs]), -body, body) for body in bodies])[2]


def step_back(dimension, bodies, pairs, body):
    """The step by which the body came last, of a just stiff FRAME of these bodies and pairs."""
    anew = {old: at for at, old in enumerate(bodies)}
    frame = (dimension, len(bodies), tuple([("bar", anew[one], anew[other]) for one, other in pairs]))
    packing = trees_by(frame, anew[body])
    ends = [[] for number in range(dimension)]
    for bar in bars_at(frame, anew[body]):
        ends[packing[bar][0]].append(bodies[far_end(frame[2][bar], anew[body])])
    # Where a tree has two bars at the body, its ends are unlike: they made a pair before the body came between.
    pinched = sorted([tuple(sorted(row)) for row in ends if len(row) == 2])
    return (body, tuple(pinched), tuple(sorted([row[0] for row in ends if len(row) == 1])))


def is_plan_form(plan):
    """Whether plan is a pair of a body from 0 to 7 and a tuple of triples as steps are."""
    if not is_row(plan, 2) or not is_any_body(plan[0]) or type(plan[1]) is not tuple:
        return False
    return all(is_step_form(step) for step in plan[1])


def is_any_body(value):
    """Whether value is an integer from 0 to 7."""
    return is_whole(value, 0, MOST_BODIES - 1)


def is_step_form(step):
    """Whether step is a triple of a body, a tuple of pairs and a tuple of bodies, each not below the one ahead."""
    if not is_row(step, 3) or not is_any_body(step[0]):
        return False
    body, pinched, ends = step
    if type(pinched) is not tuple or type(ends) is not tuple:
        return False
    if not all(is_any_pair(pair) for pair in pinched) or not all(is_any_body(end) for end in ends):
        return False
    return never_falls(pinched) and never_falls(ends)


def is_any_pair(value):
    """Whether value is a pair (A, B) of integers from 0 to 7, A < B."""
    return is_row(value, 2) and is_any_body(value[0]) and is_any_body(value[1]) and value[0] < value[1]


def never_falls(row):
    """Whether each thing is at least the one ahead of it."""
    return all(one <= other for one, other in zip(row, row[1:]))


def done_steps(dimension, many, plan):
    """The word of the first step of a formed PLAN that can't be done, the bodies and the pairs ahead of it.

    "" if all can; bodies must be less than many."""
    first, steps = plan
    if first >= many:
        return ("body", [], [])
    bodies, pairs = [first], []
    for body, pinched, ends in steps:
        if body >= many or body in bodies:
            return ("body", bodies, pairs)
        if len(pinched) >= dimension or any(pinched.count(pair) > pairs.count(pair) for pair in pinched):
            return ("pinched", bodies, pairs)
        if len(ends) != dimension - len(pinched) or any(end not in bodies for end in ends):
            return ("ends", bodies, pairs)
        for pair in pinched:
            pairs.remove(pair)
        tied = list(ends)
        for pair in pinched:
            tied.extend(pair)
        pairs.extend([(min(end, body), max(end, body)) for end in tied])
        bodies.append(body)
    return ("", bodies, pairs)


def plan_fault(frame, plan):
    """The first word of what is wrong with a value that should be a PLAN of the frame, "" of one."""
    dimension, many, joints = need_frame(frame)
    if not is_plan_form(plan):
        return "form"
    word, bodies, pairs = done_steps(dimension, many, plan)
    if word != "":
        return word
    if len(bodies) < many:
        return "all"
    due = [(one, other) for kind, one, other in joints]
    return "" if sorted(pairs) == sorted(due) and all(joint[0] == "bar" for joint in joints) else "bars"


def built(dimension, plan):
    """The pairs that a PLAN builds, each at least the one ahead of it."""
    need_dimension(dimension)
    if not is_plan_form(plan):
        raise BadPlan("form")
    word, bodies, pairs = done_steps(dimension, MOST_BODIES, plan)
    if word != "":
        raise BadPlan(word)
    return tuple(sorted(pairs))
