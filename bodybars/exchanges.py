"""EXCHANGES: rows of joints that pass numbers on, so that the first one gets one more ([42])."""

from bodybars.basics import is_row, is_whole
from bodybars.errors import BadExchange
from bodybars.frames import joint_sizes
from bodybars.packings import need_packing
from bodybars.woodways import hung_woods, path_in, way_by


def exchange_fault(frame, packing, value):
    """The first word of [42] that applies to value, "" of an EXCHANGE."""
    need_packing(frame, packing)
    if not is_formed(frame, value):
        return "form"
    joints = [joint for joint, number in value]
    if len(set(joints)) < len(joints):
        return "again"
    if len(packing[joints[0]]) == joint_sizes(frame)[joints[0]]:
        return "full"
    if any(number in packing[joint] for joint, number in value):
        return "has"
    return ways_fault(value, [way_by(frame, packing, joint, number) for joint, number in value])


def is_formed(frame, value):
    """Whether value is a tuple, not (), of pairs of a joint and a number."""
    if type(value) is not tuple or len(value) == 0:
        return False
    return all(is_pair(frame, pair) for pair in value)


def is_pair(frame, value):
    """Whether value is a pair of a joint of the frame and of one of its numbers."""
    if not is_row(value, 2):
        return False
    return is_whole(value[0], 0, len(frame[2]) - 1) and is_whole(value[1], 0, frame[0] - 1)


def ways_fault(pairs, ways):
    """The words of [42] that ask for the ways, each pair's joint's way by its number being told."""
    last = len(pairs) - 1
    for at in range(last):
        if ways[at] is None or pairs[at + 1][0] not in ways[at]:
            return "way"
    if ways[last] is not None:
        return "end"
    for at in range(last):
        for onto in range(at + 2, last + 1):
            if pairs[at][1] == pairs[onto - 1][1] and pairs[onto][0] in ways[at]:
                return "cut"
    return ""


def shortest_exchange(frame, most, numbers, packing):
    """An EXCHANGE with the fewest pairs, None without one.

    Only numbers below numbers are passed on, and a joint is full with most[joint] of them."""
    woods = hung_woods(frame, packing, numbers)
    came = {joint: None for joint, row in enumerate(packing) if len(row) < most[joint]}
    queue = list(came)
    at = 0
    # The nearer joints stand ahead in the queue, so the first end found is a nearest one:
    # then no part of the walk can be cut short, as [42] asks.
    while at < len(queue):
        joint = queue[at]
        at += 1
        for number in range(numbers):
            if number in packing[joint]:
                continue
            way = path_in(woods[number], frame[2][joint][1], frame[2][joint][2])
            if way is None:
                return walk_to(came, joint, number)
            for onto in way:
                if onto not in came:
                    came[onto] = (joint, number)
                    queue.append(onto)
    return None


def walk_to(came, joint, number):
    """The pairs of the walk that ends with this joint and number; came tells each joint's pair ahead."""
    pairs = [(joint, number)]
    while came[pairs[-1][0]] is not None:
        pairs.append(came[pairs[-1][0]])
    return tuple(pairs[::-1])


def exchange_of(frame, packing):
    """An EXCHANGE for the PACKING with the fewest pairs, None if there is none."""
    need_packing(frame, packing)
    return shortest_exchange(frame, joint_sizes(frame), frame[0], packing)


def exchanged(frame, packing, exchange):
    """The PACKING behind the EXCHANGE; BadExchange(word) of what is none."""
    word = exchange_fault(frame, packing, exchange)
    if word != "":
        raise BadExchange(word)
    return done(packing, exchange)


def done(packing, exchange):
    """The PACKING behind what is known to be an EXCHANGE."""
    rows = [list(numbers) for numbers in packing]
    for joint, number in exchange:
        rows[joint].append(number)
    for at in range(1, len(exchange)):
        rows[exchange[at][0]].remove(exchange[at - 1][1])
    return tuple([tuple(sorted(numbers)) for numbers in rows])


def growing(frame, packing):
    """Yields the PACKING behind one EXCHANGE after another, until it is greatest."""
    exchange = exchange_of(frame, packing)
    while exchange is not None:
        packing = done(packing, exchange)
        yield packing
        exchange = exchange_of(frame, packing)
