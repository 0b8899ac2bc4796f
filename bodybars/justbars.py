"""Just stiff FRAMES of bars, and their trees at a body ([85], [86])."""

from bodybars.basics import need_body
from bodybars.errors import NotJust
from bodybars.frames import need_frame
from bodybars.woods import free_of, greatest_of
from bodybars.woodways import hung_wood, path_in, wood_of


def is_just_stiff(frame):
    """Whether the frame is just stiff."""
    dimension, many, joints = need_frame(frame)
    if len(joints) != dimension * (many - 1) or any(joint[0] != "bar" for joint in joints):
        return False
    return free_of(frame) == 0


def need_just(frame):
    """The just stiff FRAME; NotJust() of another one."""
    if not is_just_stiff(frame):
        raise NotJust()
    return frame


def bars_at(frame, body):
    """The numbers of the bars at a body, ascending."""
    return [joint for joint, (kind, one, other) in enumerate(frame[2]) if body in (one, other)]


def far_end(joint, body):
    """The body at the other end of a joint at this one."""
    return joint[1] + joint[2] - body


def trees_at(frame, body):
    """A greatest PACKING in which each number has one or two bars at the body; None if this has 2 * D bars or more."""
    need_just(frame)
    need_body(frame, body)
    return None if len(bars_at(frame, body)) >= 2 * frame[0] else trees_by(frame, body)


def trees_by(frame, body):
    """Such a PACKING of a just stiff FRAME at a body with less than 2 * D bars."""
    packing = greatest_of(frame)
    high, low = unlevel_numbers(frame, packing, body)
    while high is not None:
        packing = leveled_at(frame, packing, body, high, low)
        high, low = unlevel_numbers(frame, packing, body)
    return packing


def bars_of_number(frame, packing, body, number):
    """The bars at the body that have the number."""
    return [joint for joint in bars_at(frame, body) if number in packing[joint]]


def unlevel_numbers(frame, packing, body):
    """A number with three bars or more at the body, and one with a single one; (None, None) if there is none."""
    many = [len(bars_of_number(frame, packing, body, number)) for number in range(frame[0])]
    if max(many) < 3:
        return (None, None)
    # There are less than 2 * D bars: so where a number has three, another one has but one.
    return (many.index(max(many)), many.index(1))


def leveled_at(frame, packing, body, high, low):
    """The PACKING with one bar less at the body that has high, and one more that has low."""
    lone = bars_of_number(frame, packing, body, low)[0]
    goal = far_end(frame[2][lone], body)
    for bar in bars_of_number(frame, packing, body, high):
        start = far_end(frame[2][bar], body)
        rest = [joint for joint in wood_of(packing, high) if joint != bar]
        hung = hung_wood(frame, rest)
        if hung[start][0] != hung[goal][0]:
            # Without the bar its tree falls apart; the way in the other tree, which doesn't touch the body,
            # crosses from one part to the other: there the two trees exchange their bars.
            for joint in path_in(hung_wood(frame, wood_of(packing, low)), start, goal):
                if hung[frame[2][joint][1]][0] != hung[frame[2][joint][2]][0]:
                    return exchanged_numbers(packing, bar, low, joint, high)
    return packing


def exchanged_numbers(packing, bar, low, joint, high):
    """The PACKING in which bar has low alone, and joint has high alone."""
    rows = list(packing)
    rows[bar], rows[joint] = (low,), (high,)
    return tuple(rows)
