"""What several tests share: drawn values, and slow answers by the words of the document alone."""

import functools
import itertools
import math
import random
from fractions import Fraction

KINDS = {1: ("bar", "weld"), 3: ("bar", "pin", "weld"), 6: ("bar", "hinge", "weld")}
SIZE = {1: {"bar": 1, "weld": 1}, 3: {"bar": 1, "pin": 2, "weld": 3}, 6: {"bar": 1, "hinge": 5, "weld": 6}}


class Spiteful:
    """A value that can't be compared, measured or hashed."""

    __hash__ = None

    def __eq__(self, other):
        raise RuntimeError("compared")

    def __len__(self):
        raise RuntimeError("measured")

    def __bool__(self):
        raise RuntimeError("tested")


# Values that are neither integers nor tuples.
STRANGE = (None, True, False, "", "1", "bar", b"1", [], [1], {}, {1: 2}, {1}, object(), Spiteful(), int, len)


def drawn(seed):
    return random.Random(seed)


def draw_frame(rng, dimension, many, most):
    """A FRAME with up to most joints."""
    joints = []
    for _ in range(rng.randint(0, most) if many > 1 else 0):
        one, other = sorted(rng.sample(range(many), 2))
        joints.append((rng.choice(KINDS[dimension]), one, other))
    return (dimension, many, tuple(joints))


def draw_frames(seed, times, many=5, most=8):
    """FRAMES of each D with one to many bodies."""
    rng = drawn(seed)
    for _ in range(times):
        for dimension in (1, 3, 6):
            yield draw_frame(rng, dimension, rng.randint(1, many), most)


def draw_packing(rng, frame, numbers=None):
    """Some PACKING of the frame, seldom a greatest one."""
    dimension, many, joints = frame
    woods = [{body: body for body in range(many)} for _ in range(dimension)]
    packing = []
    for kind, one, other in joints:
        row = []
        for number in rng.sample(range(dimension), rng.randint(0, SIZE[dimension][kind])):
            marks = woods[number]
            if marks[one] != marks[other] and (numbers is None or number < numbers):
                gone = marks[other]
                woods[number] = {body: marks[one] if mark == gone else mark for body, mark in marks.items()}
                row.append(number)
        packing.append(tuple(sorted(row)))
    return tuple(packing)


def draw_stuck_packing(rng, frame):
    """A PACKING in which no joint can take a number at once, though it needn't be a greatest one."""
    pairs = [(joint, number) for joint in range(len(frame[2])) for number in range(frame[0])]
    rng.shuffle(pairs)
    rows = [set() for _ in frame[2]]
    for joint, number in pairs:
        kind, *ends = frame[2][joint]
        wood = [frame[2][at][1:] for at, row in enumerate(rows) if number in row]
        if len(rows[joint]) < SIZE[frame[0]][kind] and is_wood(frame[1], [*wood, ends]):
            rows[joint].add(number)
    return tuple(tuple(sorted(row)) for row in rows)


def draw_parting(rng, many):
    return lots_from([rng.randrange(many) for _ in range(many)])


def draw_renaming(rng, frame):
    bodies = rng.sample(range(frame[1]), frame[1])
    order = rng.sample(range(len(frame[2])), len(frame[2]))
    return (tuple(bodies), tuple(order))


def draw_place(rng, width, far=5):
    return tuple(rng.randint(-far, far) for _ in range(width))


def draw_placement(rng, frame, far=5):
    things = []
    width = 2 if frame[0] == 3 else 3
    for kind, _, _ in frame[2]:
        if frame[0] == 1 or kind == "weld":
            things.append(())
        elif kind == "pin":
            things.append(draw_place(rng, width, far))
        else:
            one = other = draw_place(rng, width, far)
            while other == one:
                other = draw_place(rng, width, far)
            things.append((one, other))
    return tuple(things)


def lots_from(marks):
    """Lots numbered in the order of their least bodies."""
    told = []
    for mark in marks:
        if mark not in told:
            told.append(mark)
    return tuple(told.index(mark) for mark in marks)


@functools.lru_cache(None)
def slow_partings(many):
    """All PARTINGS, out of all tuples of marks."""
    return tuple(sorted({lots_from(marks) for marks in itertools.product(range(many), repeat=many)}))


def slow_bound(frame, parting, numbers):
    crossing = sum(SIZE[frame[0]][kind] for kind, a, b in frame[2] if parting[a] != parting[b])
    return crossing + numbers * (frame[1] - len(set(parting)))


def slow_rank_of(frame):
    """RANK, by all PARTINGS."""
    return min(slow_bound(frame, parting, frame[0]) for parting in slow_partings(frame[1]))


def slow_without(frame, loss):
    """The FRAME without some joints."""
    return (frame[0], frame[1], tuple(joint for at, joint in enumerate(frame[2]) if at not in loss))


def slow_fall(frame, loss):
    return slow_rank_of(frame) - slow_rank_of(slow_without(frame, loss))


def slow_is_met(frame, tally):
    """Whether a TALLY is met, by all tuples of bodies ([45])."""
    for many in range(2, frame[1] + 1):
        for lot in itertools.combinations(range(frame[1]), many):
            between = sum(n for (_, one, other), n in zip(frame[2], tally) if one in lot and other in lot)
            if between > frame[0] * (many - 1):
                return False
    return True


def all_tallies(frame):
    return itertools.product(*[range(SIZE[frame[0]][kind] + 1) for kind, _, _ in frame[2]])


def slow_greatest_tallies(frame):
    rank = slow_rank_of(frame)
    return [tally for tally in all_tallies(frame) if sum(tally) == rank and slow_is_met(frame, tally)]


def tally_frames(seed, tries, most=300, many=4, joints=5):
    """FRAMES of each D for which all TALLIES can be tried."""
    yield from [frame for frame in FRAMES if frame[1] <= 4 and math.prod(SIZE[frame[0]][j[0]] + 1 for j in frame[2]) <= most]
    for frame in draw_frames(seed, tries, many, joints):
        if math.prod(SIZE[frame[0]][joint[0]] + 1 for joint in frame[2]) <= most:
            yield frame


def slow_pieces(many, pairs):
    """The lots of bodies by rows of pairs."""
    beside = {body: {body} for body in range(many)}
    for _ in range(many):
        for a, b in pairs:
            both = beside[a] | beside[b]
            beside[a] = beside[b] = both
            for body in both:
                beside[body] = beside[body] | both
    return lots_from([min(beside[body]) for body in range(many)])


def is_wood(many, pairs):
    """Whether the pairs make no round: each one lets the pieces be fewer by one."""
    return len(set(slow_pieces(many, pairs))) == many - len(pairs)


def slow_is_packing(frame, packing):
    dimension, many, joints = frame
    for (kind, _, _), row in zip(joints, packing):
        if list(row) != sorted(set(row)) or len(row) > SIZE[dimension][kind]:
            return False
        if not set(row) <= set(range(dimension)):
            return False
    if len(packing) != len(joints):
        return False
    for number in range(dimension):
        if not is_wood(many, [joint[1:] for joint, row in zip(joints, packing) if number in row]):
            return False
    return True


def slow_packings(frame):
    """All PACKINGS of a small frame."""
    rows = []
    for kind, _, _ in frame[2]:
        rows.append([
            row for many in range(SIZE[frame[0]][kind] + 1) for row in itertools.combinations(range(frame[0]), many)
        ])
    return [packing for packing in itertools.product(*rows) if slow_is_packing(frame, packing)]


def slow_way(frame, packing, joint, number):
    """The way, by trying all rows of joints of the wood."""
    if number in packing[joint]:
        return (joint,)
    wood = [at for at, row in enumerate(packing) if number in row]
    start, goal = frame[2][joint][1:]
    todo = [((), start)]
    while todo:
        row, body = todo.pop()
        if body == goal:
            return row
        for at in wood:
            ends = frame[2][at][1:]
            if at not in row and body in ends:
                todo.append((row + (at,), ends[0] + ends[1] - body))
    return None


def whole(row):
    """The row of fractions times what makes it one of integers without a common divisor."""
    row = [Fraction(number) for number in row]
    scale = math.lcm(*[number.denominator for number in row])
    numbers = [int(number * scale) for number in row]
    common = math.gcd(*numbers) or 1
    return tuple(number // common for number in numbers)


def less(row, base, column):
    """The row, less as much of base as makes it 0 at the column."""
    if row[column] == 0:
        return row
    return [number - row[column] * onto if onto else number for number, onto in zip(row, base)]


def slow_reduced(rows, wide):
    """The REDUCED list, by fractions."""
    left = [[Fraction(number) for number in row] for row in rows]
    done = []
    for column in range(wide):
        ready = [row for row in left if row[column] != 0]
        if ready:
            left.remove(ready[0])
            base = [number / ready[0][column] for number in ready[0]]
            left = [less(row, base, column) for row in left]
            done = [less(row, base, column) for row in done] + [base]
    return tuple(whole(row) for row in done)


def slow_rank(rows, wide):
    return len(slow_reduced(rows, wide))


def slow_null(rows, wide):
    """The NULL ROWS: one solution for each column without a LEAD, reduced."""
    done = slow_reduced(rows, wide)
    leads = [next(place for place in range(wide) if row[place] != 0) for row in done]
    solutions = []
    for free in range(wide):
        if free not in leads:
            row = [Fraction(place == free) for place in range(wide)]
            for lead, base in zip(leads, done):
                row[lead] = Fraction(-base[free], base[lead])
            solutions.append(row)
    return slow_reduced(solutions, wide)


def times(one, other):
    """The sum of the products, place by place."""
    assert len(one) == len(other)
    return sum(number * onto for number, onto in zip(one, other))


def slow_cross(one, other):
    return (
        one[1] * other[2] - one[2] * other[1], one[2] * other[0] - one[0] * other[2], one[0] * other[1] - one[1] * other[0]
    )


def slow_rows(dimension, kind, thing):
    """The ROWS of a joint, by the words of [21]."""
    if dimension == 1:
        return ((1,),)
    if kind == "weld":
        return tuple(tuple(int(place == at) for place in range(dimension)) for at in range(dimension))
    if kind == "pin":
        return ((1, 0, -thing[1]), (0, 1, thing[0]))
    p, q = thing
    way = tuple(b - a for a, b in zip(p, q))
    if dimension == 3:
        return ((*way, p[0] * way[1] - p[1] * way[0]),)
    d, m = way, slow_cross(p, q)
    if kind == "bar":
        return (d + m,)
    a = m + d
    pivot = next(place for place in range(3, 6) if a[place] != 0)
    rows = []
    for place in range(6):
        if place != pivot:
            row = [0] * 6
            row[place], row[pivot] = a[pivot], -a[place]
            rows.append(tuple(row))
    return tuple(rows)


def slow_matrix(frame, placement):
    """MATRIX, by the words of [22]."""
    dimension, many, joints = frame
    matrix = []
    for (kind, one, other), thing in zip(joints, placement):
        for row in slow_rows(dimension, kind, thing):
            parts = [(0,) * dimension] * many
            parts[one], parts[other] = row, tuple(-number for number in row)
            matrix.append(tuple(number for part in parts for number in part))
    return tuple(matrix)


def slow_rank_at(frame, placement):
    return slow_rank(slow_matrix(frame, placement), frame[0] * frame[1])


def placed_frames(seed, frames, far=4, times_each=1):
    """Each frame with placements that are drawn: some of them near one another, so that some are special."""
    rng = drawn(seed)
    for frame in frames:
        for _ in range(times_each):
            if rng.random() < 0.4:
                yield frame, draw_close_placement(rng, frame)
            else:
                yield frame, draw_placement(rng, frame, rng.choice((1, 2, far)))


def draw_close_placement(rng, frame):
    """A PLACEMENT whose joints share a few PLACES: often a special one."""
    width = 2 if frame[0] == 3 else 3
    places = set()
    while len(places) < width + 1:
        places.add(draw_place(rng, width, 2))
    things = []
    for kind, _, _ in frame[2]:
        pair = tuple(rng.sample(sorted(places), 2))
        things.append(() if frame[0] == 1 or kind == "weld" else pair[0] if kind == "pin" else pair)
    return tuple(things)


# Small frames that stand for others: each D, all kinds, one and eight bodies, joints side by side.
FRAMES = (
    (1, 1, ()),
    (3, 1, ()),
    (6, 8, ()),
    (1, 3, (("bar", 0, 1), ("weld", 0, 1), ("bar", 1, 2))),
    (3, 2, (("bar", 0, 1), ("bar", 0, 1), ("bar", 0, 1))),
    (3, 3, (("pin", 0, 1), ("pin", 1, 2), ("pin", 0, 2))),
    (3, 3, (("pin", 0, 1), ("pin", 0, 1), ("bar", 0, 1), ("weld", 1, 2))),
    (3, 4, (("pin", 0, 1), ("pin", 1, 2), ("pin", 2, 3), ("pin", 0, 3))),
    (6, 2, (("hinge", 0, 1), ("bar", 0, 1))),
    (6, 3, (("hinge", 0, 1), ("hinge", 1, 2), ("weld", 0, 2), ("bar", 0, 1))),
    (6, 6, tuple(("hinge", body, body + 1) for body in range(5)) + (("hinge", 0, 5),)),
    (3, 8, tuple(("bar", one, other) for one in range(8) for other in range(one + 1, 8))),
    (3, 2, (("bar", 0, 1),) * 40),
)


def tokens(text):
    """The words and ends of lines of a text, each with its place, and the end of the text."""
    lines = text.split("\n")
    told = []
    for line, words in enumerate(line.split(" ") for line in lines):
        told.extend((("word", word), (line, at)) for at, word in enumerate(words))
        told.append(("end of line", (line, len(words))))
    told.append(("end of text", (len(lines), 0)))
    return told


class Judge:
    """Tells first faults by [39] itself, from all texts of a kind."""

    def __init__(self, texts):
        self.begun = {()}
        for text in texts:
            row = tuple(token for token, _ in tokens(text))
            self.begun.update(row[:many] for many in range(len(row) + 1))

    def fault(self, text):
        row = ()
        for token, place in tokens(text):
            row += (token,)
            if row not in self.begun:
                # The end of a line tells the place behind its last word, the end of the text the next line.
                return place
        return None


STRANGE_WORDS = (
    "", "-0", "00", "01", "+1", "-1", "1_0", "9", "0x1", "one", "7" * 5000, "-" + "7" * 5000, "0" * 5000, "lots",
    "frame", "joint", "packing", "placement", "at", "from", "to", "held", "bar", "pin", "hinge", "weld", "1.0", "1e1",
    "-", "--1", "1-", "\t1", "0\t", "1" * 12,
)


def changed_texts(rng, text, times):
    """Texts with a word or a line changed, left out, put in, put twice or moved."""
    yield from ("", " ", "\n", text + "\n", text + " ", " " + text, "\n" + text, text + " \n", text.replace("\n", " \n"))
    for _ in range(times):
        lines = [line.split(" ") for line in text.split("\n")]
        line = rng.randrange(len(lines))
        words = lines[line]
        at = rng.randrange(len(words))
        kind = rng.randrange(8)
        word = rng.choice([*STRANGE_WORDS, *[str(number) for number in range(8)]])
        if kind == 0:
            words[at] = word
        elif kind == 1:
            del words[at]
        elif kind == 2:
            words.insert(rng.randint(0, len(words)), word)
        elif kind == 3:
            del lines[line]
        elif kind == 4:
            lines.insert(line, list(words))
        elif kind == 5:
            lines.insert(rng.randrange(len(lines)), lines.pop(line))
        elif kind == 6:
            words[at], words[-1] = words[-1], words[at]
        else:
            lines.insert(rng.randint(0, len(lines)), [word])
        yield "\n".join(" ".join(words) for words in lines)
