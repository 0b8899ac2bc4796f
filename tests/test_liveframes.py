"""[100] to [103]: STATES, EDITS, LIVE FRAMES, news, the kept PACKING."""

import inspect
import unittest

from bodybars.errors import BadDimension, BadEdit, BadEdits, BadNumber
from bodybars.exchanges import exchange_fault, exchanged
from bodybars.extremes import least_parting
from bodybars.freedoms import freedom
from bodybars.liveframes import LiveFrame
from bodybars.placed import left_at
from bodybars.woods import rank_of
from tests.helper import SIZE, STRANGE, Spiteful, drawn, slow_is_packing, slow_rank_of
from tests.livehelp import draw_edits, frame_of, needs_no_place, slow_state

FULL = (("join", "pin", 0, 1), ("join", "bar", 0, 1), ("join", "weld", 0, 1), ("part", 1), ("join", "bar", 0, 1))


def live_with(dimension, many, edits):
    live = LiveFrame(dimension, many)
    for edit in edits:
        live.do(edit)
    return live


def snapshot(live):
    return (live.state(), live.packing(), live.log())


def live_frames(seed, times, long=25, most=4):
    rng = drawn(seed)
    for _ in range(times):
        for dimension in (1, 3, 6):
            many = rng.randint(1, most)
            edits = draw_edits(rng, dimension, many, rng.randint(0, long))
            yield live_with(dimension, many, edits), many, edits


def dense_frames(seed, times):
    """LIVE FRAMES with many joints between their bodies, of which many are taken out again."""
    rng = drawn(seed)
    for _ in range(times):
        for dimension in (1, 3, 6):
            many = rng.randint(4, 5)
            joints = [("join", rng.choice(("bar", "bar", "weld")), *sorted(rng.sample(range(many), 2))) for _ in range(30)]
            tags = rng.sample(range(30), 25)
            edits = tuple(joints) + tuple(("part", tag) for tag in tags)
            yield live_with(dimension, many, edits), many, edits


class States(unittest.TestCase):
    def test_at_first(self):
        for dimension in (1, 3, 6):
            for many in range(1, 9):
                live = LiveFrame(dimension, many)
                self.assertEqual(live.state(), (dimension, many, 0, ()))
                self.assertEqual(live.frame(), (dimension, many, ()))
                self.assertEqual((live.tags(), live.packing(), live.placement()), ((), (), ()))
                self.assertEqual((live.rank(), live.free()), (0, dimension * (many - 1)))
                self.assertEqual(live.left(), dimension * (many - 1))
                self.assertEqual(live.parting(), tuple(range(many)))
                self.assertEqual(live.log(), (dimension, many, ()))

    def test_behind_edits(self):
        for live, many, edits in live_frames(700, 15):
            state = slow_state(live.state()[0], many, edits)
            self.assertEqual(live.state(), state)
            frame = frame_of(state)
            self.assertEqual(live.frame(), frame)
            self.assertEqual(live.tags(), tuple(row[0] for row in state[3]))
            things = tuple(row[4] for row in state[3])
            placement = None if None in things else things
            self.assertEqual(live.placement(), placement)
            self.assertEqual(live.left(), None if placement is None else left_at(frame, placement))
            self.assertEqual(live.parting(), least_parting(frame))
            self.assertTrue(slow_is_packing(frame, live.packing()))
            self.assertEqual(sum(map(len, live.packing())), live.rank())
            if frame[1] < 6:
                self.assertEqual(live.rank(), slow_rank_of(frame))
            self.assertEqual(live.free(), frame[0] * (frame[1] - 1) - live.rank())
            for tag in range(state[2] + 2):
                self.assertIs(live.has(tag), tag in live.tags())

    def test_an_example(self):
        live = live_with(3, 2, FULL)
        self.assertEqual(live.state(), (3, 2, 4, (
            (0, "pin", 0, 1, None), (2, "weld", 0, 1, ()), (3, "bar", 0, 1, None),
        )))
        self.assertEqual(live.tags(), (0, 2, 3))
        self.assertIsNone(live.placement())
        live.do(("place", 3, ((0, 0), (1, 2))))
        self.assertIsNone(live.left())
        self.assertEqual(live.do(("place", 0, (5, 5))), ("place", 0, 0))
        self.assertEqual(live.placement(), ((5, 5), (), ((0, 0), (1, 2))))
        self.assertEqual(live.do(("place", 0, None)), ("place", 0, None))
        self.assertEqual(live.do(("place", 2, ())), ("place", 2, None))

    def test_has_any_value(self):
        live = live_with(3, 2, FULL)
        for value in STRANGE + (1, 4, -1, 10 ** 999, (0,)):
            self.assertIs(live.has(value), False)

    def test_wrong_arguments(self):
        for value in STRANGE + (0, 2, -1, 10 ** 999, (3,)):
            with self.assertRaises(BadDimension):
                LiveFrame(value, None)
            with self.assertRaises(BadDimension):
                LiveFrame(many=None, dimension=value)
        for value in STRANGE + (0, 9, -1, 10 ** 999, (3,)):
            with self.assertRaises(BadNumber) as caught:
                LiveFrame(3, value)
            self.assertIs(caught.exception.value, value)
        self.assertEqual(LiveFrame(many=2, dimension=6).state(), (6, 2, 0, ()))


class Edits(unittest.TestCase):
    def check(self, live, edit, fault):
        before = snapshot(live)
        self.assertEqual(live.fault(edit), fault)
        if fault is not None:
            for call in (live.do, lambda value: live.tried((value,)), lambda value: live.tried((value, None))):
                with self.assertRaises(BadEdit) as caught:
                    call(edit)
                self.assertEqual((caught.exception.word, caught.exception.place), fault)
        self.assertEqual(snapshot(live), before)

    def test_each_word(self):
        live = live_with(3, 3, FULL)
        for edit in STRANGE + (0, (), ["body"], "body"):
            self.check(live, edit, ("edit", ()))
        for word in STRANGE + (0, "Body", "body ", "bar", ("body",)):
            self.check(live, (word,), ("word", (0,)))
            self.check(live, (word, "bar", 0, 1), ("word", (0,)))
        for word, many in (("body", 1), ("join", 4), ("part", 2), ("place", 3)):
            for long in (1, 2, 3, 4, 5):
                if long != many:
                    self.check(live, (word,) + (Spiteful(),) * (long - 1), ("long", ()))
        for kind in STRANGE + (0, "hinge", "Bar", ("bar",)):
            if type(kind) is not str or kind != "bar":
                self.check(live, ("join", kind, None, None), ("kind", (1,)))
        for body in STRANGE + (-1, 2, 10 ** 999, (0,)):
            self.check(live, ("join", "bar", body, None), ("body", (2,)))
        for body in STRANGE + (-1, 1, 0, 3, 10 ** 999, (2,)):
            self.check(live, ("join", "weld", 1, body), ("body", (3,)))
        for tag in STRANGE + (1, 4, -1, 10 ** 999, (0,)):
            self.check(live, ("part", tag), ("tag", (1,)))
            self.check(live, ("place", tag, Spiteful()), ("tag", (1,)))
        for thing in STRANGE[1:] + (0, (), (0,), (0, 0, 0), [0, 0], (0, 10 ** 9 + 1), (0, True), ((0, 0), (1, 1))):
            self.check(live, ("place", 0, thing), ("thing", (2,)))
        for thing in STRANGE[1:] + ((), (0, 0), ((0, 0), (0, 0)), ((0, 0),), ((0, 0), (0, 1), (0, 2)), [(0, 0), (0, 1)]):
            self.check(live, ("place", 3, thing), ("thing", (2,)))
        for thing in STRANGE + (0, (0,), (0, 0), ((),), []):
            self.check(live, ("place", 2, thing), ("thing", (2,)))
        for edit in (("body",), ("join", "bar", 1, 2), ("part", 3), ("place", 0, (-10 ** 9, 10 ** 9)), ("place", 0, None),
                     ("place", 2, ()), ("place", 3, ((0, 0), (0, 1)))):
            self.check(live, edit, None)

    def test_on_the_line_and_in_space(self):
        line = live_with(1, 2, (("join", "bar", 0, 1), ("join", "weld", 0, 1)))
        for tag in (0, 1):
            self.check(line, ("place", tag, None), ("thing", (2,)))
            self.check(line, ("place", tag, ()), None)
        self.check(line, ("join", "pin", 0, 1), ("kind", (1,)))
        space = live_with(6, 2, (("join", "hinge", 0, 1),))
        self.check(space, ("place", 0, ((0, 0, 0), (0, 0, 1))), None)
        self.check(space, ("place", 0, ((0, 0, 0), (0, 0, 0))), ("thing", (2,)))
        self.check(space, ("place", 0, (0, 0, 0)), ("thing", (2,)))
        self.check(space, ("join", "pin", 0, 1), ("kind", (1,)))
        self.check(LiveFrame(6, 1), ("join", "bar", 0, 1), ("body", (2,)))
        self.check(LiveFrame(6, 1), ("part", 0), ("tag", (1,)))

    def test_room_of_bodies_and_joints(self):
        live = LiveFrame(3, 7)
        self.check(live, ("body",), None)
        live.do(("body",))
        self.check(live, ("body",), ("room", ()))
        for _ in range(39):
            live.do(("join", "pin", 0, 7))
        self.check(live, ("join", "pin", 0, 7), None)
        live.do(("join", "pin", 0, 7))
        self.check(live, ("join", "pin", 0, 7), ("room", ()))
        self.check(live, ("join", Spiteful(), None, 7), ("room", ()))
        self.check(live, ("part", 40), ("tag", (1,)))
        live.do(("part", 3))
        self.check(live, ("join", "pin", 0, 7), None)
        live.do(("join", "weld", 0, 7))
        self.assertEqual(live.tags()[-1], 40)
        self.check(live, ("join", "pin", 0, 7), ("room", ()))

    def test_room_of_200_edits(self):
        live = LiveFrame(1, 2)
        for _ in range(100):
            live.do(("join", "bar", 0, 1))
            live.do(("part", live.tags()[0]))
        self.assertEqual(live.state(), (1, 2, 100, ()))
        for edit in (("body",), ("join", None, None, None), ("part", 100), ("place", None, None)):
            self.check(live, edit, ("room", ()))
        self.check(live, ("body", 1), ("long", ()))
        self.check(live, ("joint",), ("word", (0,)))
        live.undo()
        self.check(live, ("part", 99), None)
        self.check(live, ("part", 98), ("tag", (1,)))
        with self.assertRaises(BadEdit) as caught:
            live.tried((("part", 99), ("body",)))
        self.assertEqual(caught.exception.word, "room")
        self.assertEqual(live.tried((("part", 99),)), (("part", 99, 1),))
        live.redo()
        self.check(live, ("body",), ("room", ()))
        self.assertEqual(live.tried(()), ())


class News(unittest.TestCase):
    def test_of_each_edit(self):
        rng = drawn(705)
        gains = set()
        for _ in range(10):
            for dimension in (1, 3, 6):
                many = rng.randint(1, 4)
                live, rank, told = LiveFrame(dimension, many), 0, 0
                for edit in draw_edits(rng, dimension, many, 25, 0.3):
                    ahead, tags, entries = live.frame(), live.tags(), live.packing()
                    tag = live.state()[2]
                    news = live.do(edit)
                    frame = live.frame()
                    rose = (slow_rank_of(frame) if frame[1] < 6 else rank_of(frame)) - rank
                    rank += rose
                    if edit[0] == "body":
                        self.assertEqual(news, ("body", dimension * (frame[1] - 1) - rank))
                    elif edit[0] == "join":
                        self.assertEqual(news, ("join", tag, rose))
                        size = SIZE[dimension][edit[1]]
                        self.assertEqual(rose, min(size, freedom(ahead, edit[2], edit[3])))
                        told += news[2]
                        gains.add((dimension, rose))
                    elif edit[0] == "part":
                        self.assertEqual(news, ("part", edit[1], -rose))
                        told -= news[2]
                    else:
                        things = live.placement()
                        self.assertEqual(news, ("place", edit[1], None if things is None else left_at(frame, things)))
                    self.assertEqual(live.rank(), rank)
                    self.assertEqual(told, rank)
                    self.check_entries(edit, tags, entries, live)
        self.assertLessEqual({(1, 0), (1, 1), (3, 0), (3, 1), (3, 2), (3, 3), (6, 0), (6, 1), (6, 5), (6, 6)}, gains)

    def check_entries(self, edit, tags, entries, live):
        """What [103] says of how many numbers joints keep."""
        if edit[0] in ("body", "place"):
            self.assertEqual(live.packing(), entries)
        elif edit[0] == "join":
            self.assertEqual(list(map(len, live.packing()[:-1])), list(map(len, entries)))
        else:
            left = [len(row) for tag, row in zip(tags, entries) if tag != edit[1]]
            self.assertTrue(all(row >= old for row, old in zip(map(len, live.packing()), left)))

    def test_the_exchanges_that_were_done(self):
        exchanged_some = 0
        for live, many, edits in [*live_frames(710, 6, 40), *dense_frames(711, 6)]:
            dimension, begun, entries = live.log()
            self.assertEqual((dimension, begun), (live.state()[0], many))
            packing = ()
            for at, (edit, exchanges, parting) in enumerate(entries):
                self.assertEqual(edit, edits[at])
                state = slow_state(dimension, many, edits[:at])
                rank, used = sum(map(len, packing)), 0
                if edit[0] == "join":
                    packing += ((),)
                elif edit[0] == "part":
                    place = [row[0] for row in state[3]].index(edit[1])
                    used = len(packing[place])
                    packing = packing[:place] + packing[place + 1:]
                frame = frame_of(slow_state(dimension, many, edits[:at + 1]))
                for exchange in exchanges:
                    self.assertEqual(exchange_fault(frame, packing, exchange), "")
                    packing = exchanged(frame, packing, exchange)
                    if edit[0] == "join":
                        self.assertEqual(exchange[0][0], len(packing) - 1)
                    exchanged_some += len(exchange) > 1
                now = sum(map(len, packing))
                if edit[0] == "join":
                    self.assertEqual(len(exchanges), now - rank)
                elif edit[0] == "part":
                    self.assertEqual(len(exchanges), used - (rank - now))
                else:
                    self.assertEqual(exchanges, ())
                self.assertEqual(parting, least_parting(frame))
                self.assertEqual(now, slow_rank_of(frame) if frame[1] < 6 else now)
            self.assertEqual(packing, live.packing())
        self.assertGreater(exchanged_some, 8)


class Going(unittest.TestCase):
    def test_undo_and_redo(self):
        rng = drawn(715)
        for live, many, edits in live_frames(716, 10, 20):
            dimension = live.state()[0]
            past, ahead = list(edits), []
            shots = {0: snapshot(LiveFrame(dimension, many))}
            for at in range(len(edits)):
                shots[at + 1] = snapshot(live_with(dimension, many, edits[:at + 1]))
            for _ in range(15):
                if past and rng.random() < 0.5:
                    number = rng.randint(1, len(past))
                    self.assertEqual(live.undo(number), tuple(past[::-1][:number]))
                    past, ahead = past[:-number], past[-number:] + ahead
                elif ahead:
                    number = rng.randint(1, len(ahead))
                    self.assertEqual(live.redo(number), tuple(ahead[:number]))
                    past, ahead = past + ahead[:number], ahead[number:]
                self.assertEqual(snapshot(live), shots[len(past)])
                for value in (len(past) + 1, 0, -1):
                    with self.assertRaises(BadNumber):
                        live.undo(value)
                with self.assertRaises(BadNumber):
                    live.redo(len(ahead) + 1)

    def test_one_by_default(self):
        live = live_with(3, 2, FULL)
        self.assertEqual(live.undo(), (FULL[4],))
        self.assertEqual(live.undo(many=2), (FULL[3], FULL[2]))
        self.assertEqual(live.tags(), (0, 1))
        self.assertEqual(live.redo(), (FULL[2],))
        self.assertEqual(live.redo(many=2), (FULL[3], FULL[4]))
        self.assertEqual(snapshot(live), snapshot(live_with(3, 2, FULL)))

    def test_done_edits_empty_ahead(self):
        live = live_with(3, 2, FULL)
        live.undo(3)
        with self.assertRaises(BadEdit):
            live.do(("part", 9))
        self.assertEqual(live.tried((("body",), ("body",))), (("body", 3), ("body", 6)))
        self.assertEqual(live.redo(1), (FULL[2],))
        live.undo(1)
        live.do(("body",))
        with self.assertRaises(BadNumber) as caught:
            live.redo()
        self.assertEqual(caught.exception.value, 1)
        self.assertEqual(live.undo(3), (("body",), FULL[1], FULL[0]))
        with self.assertRaises(BadNumber):
            live.undo()

    def test_wrong_numbers(self):
        live = live_with(3, 2, FULL)
        live.undo(2)
        before = snapshot(live)
        for value in STRANGE + (0, -1, 4, 10 ** 999, (1,)):
            for call in (live.undo, live.redo):
                with self.assertRaises(BadNumber) as caught:
                    call(value)
                self.assertIs(caught.exception.value, value)
        with self.assertRaises(BadNumber):
            live.redo(3)
        self.assertEqual(snapshot(live), before)
        self.assertEqual(live.redo(2), FULL[3:])

    def test_tried(self):
        rng = drawn(720)
        for live, many, edits in live_frames(721, 12, 15):
            further = draw_further(rng, live, 12)
            before = snapshot(live)
            told = live.tried(further)
            self.assertEqual(snapshot(live), before)
            self.assertEqual(told, tuple(live.do(edit) for edit in further))
            live.undo(len(further) or 1) if further else None
            self.assertEqual(snapshot(live), before)

    def test_tried_with_a_bad_edit(self):
        live = live_with(3, 2, FULL)
        live.undo()
        before = snapshot(live)
        for edits, word, place in (
            ((("body",), ("part", 1)), "tag", (1,)), ((("part", 0), ("part", 0)), "tag", (1,)),
            ((("body",), ("join", "bar", 1, 2), ("join", "bar", 1, 3), None), "body", (3,)),
            ((("body",), (), ("part", 1)), "edit", ()), ((None, ("body",)), "edit", ()),
            ((("body",),) * 7, "room", ()),
        ):
            with self.assertRaises(BadEdit) as caught:
                live.tried(edits)
            self.assertEqual((caught.exception.word, caught.exception.place), (word, place))
            self.assertEqual(snapshot(live), before)
        for edits in STRANGE + (0, [("body",)], "body"):
            with self.assertRaises(BadEdits):
                live.tried(edits)
        self.assertEqual(live.tried(()), ())
        self.assertEqual(live.tried((("join", "bar", 0, 1), ("part", 3))), (("join", 3, 0), ("part", 3, 0)))
        self.assertEqual(live.redo(), (FULL[4],))

    def test_twins(self):
        live = live_with(3, 2, FULL)
        live.undo(2)
        other = live.twin()
        self.assertIs(type(other), LiveFrame)
        self.assertEqual(snapshot(other), snapshot(live))
        before = snapshot(live)
        self.assertEqual(other.redo(2), FULL[3:])
        self.assertEqual(snapshot(live), before)
        other.do(("body",))
        self.assertEqual(snapshot(live), before)
        self.assertEqual(live.redo(2), FULL[3:])
        self.assertEqual(snapshot(live), snapshot(live_with(3, 2, FULL)))
        live.undo(5)
        self.assertEqual(len(other.log()[2]), 6)
        self.assertEqual(other.undo(6), (("body",), *FULL[::-1]))
        self.assertEqual(snapshot(LiveFrame(6, 4).twin()), snapshot(LiveFrame(6, 4)))

    def test_equal_to_itself_alone(self):
        live = live_with(3, 2, FULL)
        self.assertTrue(live == live)
        self.assertFalse(live != live)
        for value in (live.twin(), LiveFrame(3, 2), 0, None, (), "live", live.state()):
            self.assertFalse(live == value)
            self.assertTrue(live != value)
            self.assertFalse(value == live)
        for call in (
            lambda: live + live, lambda: live + 1, lambda: 1 + live, lambda: live < live, lambda: live >= 0, lambda: -live,
            lambda: live * 2, lambda: live - live, lambda: live[0], lambda: 0 in live, lambda: live | live, lambda: live % 2,
        ):
            with self.assertRaises(TypeError):
                call()

    def test_what_is_told_is_plain(self):
        live = live_with(3, 2, FULL)
        live.do(("place", 0, (1, 2)))
        for value in (live.state(), live.frame(), live.tags(), live.packing(), live.parting(), live.log()):
            self.assertTrue(is_plain(value))
        self.assertIs(type(live.rank()), int)
        self.assertIs(type(live.free()), int)

    def test_methods_and_their_parameters(self):
        told = {
            "state": [], "frame": [], "tags": [], "has": ["tag"], "packing": [], "parting": [], "rank": [], "free": [],
            "placement": [], "left": [], "fault": ["edit"], "do": ["edit"], "undo": ["many"], "redo": ["many"],
            "tried": ["edits"], "twin": [], "log": [], "__init__": ["dimension", "many"],
        }
        for name, params in told.items():
            self.assertIn(name, vars(LiveFrame))
            found = inspect.signature(vars(LiveFrame)[name]).parameters
            self.assertEqual(list(found)[1:], params)
            if name in ("undo", "redo"):
                self.assertEqual(found["many"].default, 1)
        self.assertEqual(LiveFrame.__module__, "bodybars.liveframes")
        live = LiveFrame(3, 2)
        self.assertIsNone(live.fault(edit=("body",)))
        self.assertEqual(live.do(edit=("join", "bar", 0, 1)), ("join", 0, 1))
        self.assertIs(live.has(tag=0), True)
        self.assertEqual(live.tried(edits=(("part", 0),)), (("part", 0, 1),))
        self.assertEqual(live.undo(many=1), (("join", "bar", 0, 1),))


def draw_further(rng, live, times):
    """EDITS that can be done one after another behind those of the PAST."""
    twin, edits = live.twin(), []
    from tests.livehelp import draw_edit
    for _ in range(rng.randint(0, times)):
        edits.append(draw_edit(rng, twin.state()))
        twin.do(edits[-1])
    return tuple(edits)


def is_plain(value):
    if type(value) is tuple:
        return all(is_plain(thing) for thing in value)
    return value is None or type(value) in (int, str)


class Placing(unittest.TestCase):
    def test_joints_that_need_no_place(self):
        for dimension, kinds in ((1, ("bar", "weld")), (3, ("weld",)), (6, ("weld",))):
            for kind in kinds:
                self.assertTrue(needs_no_place(dimension, kind))
                live = live_with(dimension, 2, (("join", kind, 0, 1),))
                self.assertEqual(live.placement(), ((),))
                self.assertEqual(live.left(), 0)
        for dimension, kind in ((3, "bar"), (3, "pin"), (6, "bar"), (6, "hinge")):
            live = live_with(dimension, 2, (("join", kind, 0, 1),))
            self.assertIsNone(live.placement())
            self.assertIsNone(live.left())
