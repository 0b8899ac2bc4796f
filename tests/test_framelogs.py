"""[104], [105]: LOGS, their judge, RANKS, LIVE FRAMES of LOGS."""

import unittest

from bodybars.errors import BadLog
from bodybars.exchanges import exchange_fault, exchanged
from bodybars.framelogs import live_of_log, log_fault, log_ranks
from bodybars.liveframes import LiveFrame
from bodybars.logtexts import log_text
from tests.helper import STRANGE, Spiteful, drawn, slow_bound, slow_is_packing, slow_partings, slow_rank_of
from tests.livehelp import draw_edits, frame_of, slow_state
from tests.test_liveframes import dense_frames, live_frames, live_with, snapshot

# A pin and a bar between two bodies, the pin out again, and a third body.
GOOD = (3, 2, (
    (("join", "pin", 0, 1), (((0, 0),), ((0, 1),)), (0, 1)),
    (("join", "bar", 0, 1), (((1, 2),),), (0, 0)),
    (("part", 0), (), (0, 1)),
    (("place", 1, ((0, 0), (1, 2))), (), (0, 1)),
    (("body",), (), (0, 1, 2)),
))
# A weld goes, and the bar behind it gets a number.
MENDED = (3, 2, (
    (("join", "weld", 0, 1), (((0, 2),), ((0, 0),), ((0, 1),)), (0, 0)),
    (("join", "bar", 0, 1), (), (0, 0)),
    (("join", "bar", 0, 1), (), (0, 0)),
    (("part", 0), (((1, 1),), ((0, 2),)), (0, 1)),
))


def with_entry(log, at, entry):
    return (*log[:2], log[2][:at] + (entry,) + log[2][at + 1:])


def with_part(log, at, part, thing):
    entry = log[2][at]
    return with_entry(log, at, entry[:part] + (thing,) + entry[part + 1:])


class Logs(unittest.TestCase):
    def test_logs_of_live_frames(self):
        for live, many, edits in [*live_frames(730, 12, 30), *dense_frames(731, 2)]:
            log = live.log()
            self.assertEqual(log[:2], (live.state()[0], many))
            self.assertEqual(tuple(entry[0] for entry in log[2]), edits)
            self.assertIsNone(log_fault(log))
            ranks = log_ranks(log)
            due = []
            for at in range(len(edits)):
                frame = frame_of(slow_state(log[0], many, edits[:at + 1]))
                due.append(slow_rank_of(frame) if frame[1] < 6 else ranks[at])
            self.assertEqual(list(ranks), due)
            other = live_of_log(log)
            self.assertIs(type(other), LiveFrame)
            self.assertEqual(snapshot(other), snapshot(live))
            for _ in edits:
                self.assertEqual(other.undo(), live.undo())
                self.assertEqual(other.packing(), live.packing())

    def test_examples(self):
        self.assertIsNone(log_fault(GOOD))
        self.assertEqual(log_ranks(GOOD), (2, 3, 1, 1, 1))
        self.assertIsNone(log_fault(MENDED))
        self.assertEqual(log_ranks(MENDED), (3, 3, 3, 2))
        self.assertIsNone(log_fault((6, 8, ())))
        self.assertEqual(log_ranks((6, 8, ())), ())
        self.assertEqual(snapshot(live_of_log((6, 8, ()))), snapshot(LiveFrame(6, 8)))

    def test_a_live_frame_of_a_log_keeps_its_exchanges(self):
        live = live_of_log(MENDED)
        self.assertEqual(live.packing(), ((2,), (1,)))
        self.assertEqual([entry[1] for entry in live.log()[2]], [entry[1] for entry in MENDED[2]])
        self.assertEqual(live.undo(2), (MENDED[2][3][0], MENDED[2][2][0]))
        self.assertEqual(live.packing(), ((0, 1, 2), ()))
        self.assertEqual(live.redo(2), (MENDED[2][2][0], MENDED[2][3][0]))
        self.assertEqual(live.packing(), ((2,), (1,)))
        with self.assertRaises(Exception):
            live.redo()
        self.assertEqual(live.do(("body",)), ("body", 4))
        # The PARTINGS of a LOG may be any least ones; those of a LIVE FRAME are the coarsest.
        loose = (1, 3, (
            (("join", "bar", 0, 1), (((0, 0),),), (0, 1, 2)), (("join", "bar", 0, 1), (), (0, 0, 1)),
            (("part", 1), (), (0, 1, 2)),
        ))
        self.assertIsNone(log_fault(loose))
        self.assertEqual([entry[2] for entry in live_of_log(loose).log()[2]], [(0, 0, 1)] * 3)

    def test_200_entries_and_201(self):
        entry = (("join", "bar", 0, 1), (((0, 0),),), (0, 0))
        away = (("part", None), (), (0, 1))
        entries = []
        for tag in range(100):
            entries += [entry, (("part", tag), (), (0, 1))]
        self.assertIsNone(log_fault((1, 2, tuple(entries))))
        self.assertEqual(log_ranks((1, 2, tuple(entries))), (1, 0) * 100)
        live = live_of_log((1, 2, tuple(entries)))
        self.assertEqual(live.fault(("body",)), ("room", ()))
        self.assertEqual(log_fault((1, 2, tuple(entries) + (away,))), (-1, "log"))
        self.assertEqual(log_fault((1, 2, (None,) * 201)), (-1, "log"))
        self.assertEqual(log_fault((1, 2, (None,) * 200)), (0, "entry"))

    def test_each_log_tells_rank(self):
        # Whatever EXCHANGES and PARTINGS are taken: a LOG without a fault has the RANKS.
        rng = drawn(735)
        for _ in range(20):
            dimension = rng.choice((1, 3, 6))
            edits = draw_edits(rng, dimension, 2, 8)
            edits = tuple(edit for edit in edits)
            state_many = 2
            log, packing = (dimension, 2, ()), ()
            for at, edit in enumerate(edits):
                frame = frame_of(slow_state(dimension, state_many, edits[:at + 1]))
                entry = live_with(dimension, 2, edits[:at + 1]).log()[2][at]
                least = [p for p in slow_partings(frame[1]) if slow_bound(frame, p, dimension) == slow_rank_of(frame)]
                log = (*log[:2], log[2] + ((edit, entry[1], rng.choice(least)),))
            self.assertIsNone(log_fault(log))
            self.assertTrue(slow_is_packing(frame_of(slow_state(dimension, 2, edits)), live_of_log(log).packing()))
            self.assertEqual(packing, ())


def slow_fault(log):
    """The fault of a LOG whose ENTRIES are triples of an EDIT or what might be one, EXCHANGES by their form, a PARTING."""
    dimension, many, entries = log
    live, packing = LiveFrame(dimension, many), ()
    for at, (edit, exchanges, parting) in enumerate(entries):
        if live.fault(edit) is not None:
            return (at, "edit")
        if edit[0] == "join":
            packing += ((),)
        elif edit[0] == "part":
            place = live.tags().index(edit[1])
            packing = packing[:place] + packing[place + 1:]
        live.do(edit)
        frame = live.frame()
        for exchange in exchanges:
            if any(joint >= len(frame[2]) for joint, _ in exchange):
                return (at, "exchanges")
        for exchange in exchanges:
            if exchange_fault(frame, packing, exchange) != "":
                return (at, "exchange")
            packing = exchanged(frame, packing, exchange)
        if len(parting) != frame[1]:
            return (at, "parting")
        if slow_bound(frame, parting, dimension) != sum(map(len, packing)):
            return (at, "count")
    return None


def bent_log(rng, log):
    """The LOG with one thing of an ENTRY changed, or an ENTRY put elsewhere."""
    entries = list(log[2])
    at = rng.randrange(len(entries))
    edit, exchanges, parting = entries[at]
    kind = rng.randrange(7)
    if kind == 0:
        del entries[at]
    elif kind == 1:
        entries.insert(rng.randrange(len(entries)), entries.pop(at))
    elif kind == 2:
        entries[at] = (edit, exchanges[1:], parting)
    elif kind == 3:
        more = tuple((rng.randrange(4), rng.randrange(log[0])) for _ in range(rng.randint(1, 2)))
        entries[at] = (edit, (*exchanges, more)[:6], parting)
    elif kind == 4:
        entries[at] = (edit, tuple(exchange[::-1] for exchange in exchanges[::-1]), parting)
    elif kind == 5:
        entries[at] = (edit, exchanges, rng.choice(slow_partings(len(parting))))
    else:
        entries[at] = (rng.choice([("body",), ("part", at), ("join", "bar", 0, 1), ("place", at, None)]), exchanges, parting)
    return (*log[:2], tuple(entries))


class Faults(unittest.TestCase):
    def test_drawn_ones(self):
        rng = drawn(736)
        words = []
        for live, _, edits in [*live_frames(737, 20, 25), *dense_frames(738, 3)]:
            for _ in range(6 if edits else 0):
                log = bent_log(rng, live.log())
                fault = slow_fault(log)
                self.check(log, fault)
                words.append(None if fault is None else fault[1])
        for word in (None, "edit", "exchanges", "exchange", "parting", "count"):
            self.assertGreater(words.count(word), 8, word)

    def check(self, log, fault):
        self.assertEqual(log_fault(log), fault)
        if fault is None:
            return
        for call in (log_ranks, live_of_log):
            with self.assertRaises(BadLog) as caught:
                call(log)
            self.assertEqual((caught.exception.entry, caught.exception.word), fault)
        if fault[1] not in ("exchange", "count"):
            with self.assertRaises(BadLog) as caught:
                log_text(log)
            self.assertEqual((caught.exception.entry, caught.exception.word), fault)

    def test_no_log_at_all(self):
        for value in STRANGE + (0, (), GOOD[:2], GOOD + (1,), list(GOOD)):
            self.check(value, (-1, "log"))
        for value in STRANGE + (0, 2, -1, 10 ** 999, (3,)):
            self.check((value, 2, ()), (-1, "log"))
        for value in STRANGE + (0, 9, -1, 10 ** 999, (3,)):
            self.check((3, value, ()), (-1, "log"))
        for value in STRANGE + (0, [], list(GOOD[2])):
            self.check((3, 2, value), (-1, "log"))

    def test_entries(self):
        for at in range(5):
            for value in STRANGE + (0, (), GOOD[2][at][:2], GOOD[2][at] + (1,), list(GOOD[2][at])):
                self.check(with_entry(GOOD, at, value), (at, "entry"))

    def test_edits(self):
        for at in range(5):
            for value in STRANGE + (0, (), ("body", 1), ("part", 7), ("join", "hinge", 0, 1), ("place", 1, 5), ["body"]):
                self.check(with_part(GOOD, at, 0, value), (at, "edit"))
        self.check(with_part(GOOD, 3, 0, ("part", 0)), (3, "edit"))
        self.check(with_part(GOOD, 0, 0, ("join", "pin", 0, 2)), (0, "edit"))
        eight = (1, 8, ((("body",), (), tuple(range(9))),))
        self.check(eight, (0, "edit"))

    def test_exchanges_by_their_form(self):
        for at in range(3):
            for value in STRANGE + (0, [], ((),), (((0, 0),),) * 7, ([(0, 0)],), ((0, 0),), (((0, 0, 0),),), (((0,),),)):
                self.check(with_part(GOOD, at, 1, value), (at, "exchanges"))
        for number in STRANGE + (-1, 3, 10 ** 999, (0,)):
            self.check(with_part(GOOD, 0, 1, (((0, number),),)), (0, "exchanges"))
            self.check(with_part(GOOD, 0, 1, (((0, 0),), ((0, number),))), (0, "exchanges"))
        for joint in STRANGE + (-1, 1, 10 ** 999, (0,)):
            self.check(with_part(GOOD, 0, 1, (((joint, 0),),)), (0, "exchanges"))
        # The joints behind the EDIT count, not those ahead of it.
        self.check(with_part(GOOD, 2, 1, (((1, 0),),)), (2, "exchanges"))
        self.check(with_part(GOOD, 4, 1, (((1, 0),),)), (4, "exchanges"))
        self.check(with_part(GOOD, 4, 1, (((0, 0),),)), (4, "exchange"))
        self.check(with_part(GOOD, 4, 1, (((0, 0),) * 40,)), (4, "exchange"))
        self.check(with_part(GOOD, 4, 1, (((0, 0),) * 41,)), (4, "exchanges"))
        self.check(with_part(GOOD, 4, 1, (((0, 0),),) * 6), (4, "exchange"))
        self.check((3, 2, ((("body",), (((0, 0),),), (0, 1, 2)),)), (0, "exchanges"))

    def test_no_exchange_in_its_turn(self):
        for exchanges in ((((0, 0),), ((0, 0),)), (((0, 0),), ((0, 1),), ((0, 2),)), (((0, 0), (0, 1)),)):
            self.check(with_part(GOOD, 0, 1, exchanges), (0, "exchange"))
        for exchanges in ((((1, 1),),), (((0, 2),),), (((1, 2),), ((1, 0),)), (((1, 0), (0, 1)),)):
            self.check(with_part(GOOD, 1, 1, exchanges), (1, "exchange"))
        self.check(with_part(GOOD, 1, 1, (((1, 0), (0, 2)),)), None)

    def test_partings(self):
        for at in range(5):
            for value in STRANGE + (0, (), (0,), (1, 0), (0, 2), [0, 1], (0, True), (0, 1, 2, 3)):
                self.check(with_part(GOOD, at, 2, value), (at, "parting"))
        self.check(with_part(GOOD, 4, 2, (0, 1)), (4, "parting"))
        self.check(with_part(GOOD, 3, 2, (0, 1, 2)), (3, "parting"))

    def test_counts(self):
        self.check(with_part(GOOD, 0, 2, (0, 0)), (0, "count"))
        self.check(with_part(GOOD, 1, 2, (0, 1)), None)
        self.check(with_part(GOOD, 4, 2, (0, 0, 1)), (4, "count"))
        self.check(with_part(GOOD, 0, 1, (((0, 0),),)), (0, "count"))
        self.check(with_part(GOOD, 1, 1, ()), (1, "count"))
        self.check(with_part(MENDED, 3, 1, (((0, 0),),)), (3, "count"))
        self.check(with_part(MENDED, 3, 1, ()), (3, "count"))
        self.check(with_part(MENDED, 3, 1, (((0, 0),), ((1, 2),))), None)

    def test_the_first_of_several(self):
        bad = (("body", 1), None, None)
        self.check((3, 2, (None, bad)), (0, "entry"))
        self.check((3, 2, (bad, None)), (0, "edit"))
        self.check(with_entry(GOOD, 1, (("join", "bar", 0, 1), Spiteful(), Spiteful())), (1, "exchanges"))
        self.check(with_entry(GOOD, 1, (("join", "bar", 0, 1), (((1, 0),),), Spiteful())), (1, "exchange"))
        self.check(with_entry(GOOD, 1, (("join", "bar", 0, 1), (), Spiteful())), (1, "parting"))
        self.check(with_part(with_part(GOOD, 3, 2, None), 1, 1, ()), (1, "count"))
        for at in range(5):
            for part, word in ((0, "edit"), (1, "exchanges"), (2, "parting")):
                log = GOOD
                for later in range(at + 1, 5):
                    log = with_entry(log, later, Spiteful())
                self.check(with_part(log, at, part, Spiteful()), (at, word))

    def test_formed_logs_pass_two_words_over(self):
        for log in (with_part(GOOD, 0, 1, ()), with_part(GOOD, 1, 1, (((1, 0),),)), with_part(GOOD, 0, 2, (0, 0))):
            self.assertIn(log_fault(log)[1], ("exchange", "count"))
            self.assertEqual(type(log_text(log)), str)
        # A later fault is told by log_text, which passes the words over.
        log = with_part(with_part(GOOD, 0, 1, ()), 3, 2, None)
        self.assertEqual(log_fault(log), (0, "count"))
        with self.assertRaises(BadLog) as caught:
            log_text(log)
        self.assertEqual((caught.exception.entry, caught.exception.word), (3, "parting"))
        log = with_part(with_part(GOOD, 0, 1, (((0, 0),), ((0, 0),))), 2, 1, (((1, 1),),))
        self.assertEqual(log_fault(log), (0, "exchange"))
        with self.assertRaises(BadLog) as caught:
            log_text(log)
        self.assertEqual((caught.exception.entry, caught.exception.word), (2, "exchanges"))
