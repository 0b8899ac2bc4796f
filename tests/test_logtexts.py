"""[105], [106], with [37] to [39]: texts of LOGS."""

import unittest

from bodybars.errors import BadLog, BadText
from bodybars.framelogs import log_fault
from bodybars.liveframes import LiveFrame
from bodybars.logtexts import log_text, log_text_fault, read_log
from tests.helper import KINDS, STRANGE, changed_texts, draw_parting, drawn, tokens
from tests.livehelp import draw_edits, frame_of, slow_state
from tests.test_framelogs import GOOD, MENDED
from tests.test_liveframes import live_frames

TEXT = """live 3 2
join pin 0 1
exchange 0 0
exchange 0 1
lots 0 1
join bar 0 1
exchange 1 2
lots 0 0
part 0
lots 0 1
place 1 from 0 0 to 1 2
lots 0 1
body
lots 0 1 2"""


def draw_formed(rng, dimension, many, times):
    """A formed LOG, whose EXCHANGES and PARTINGS are seldom right."""
    edits = draw_edits(rng, dimension, many, times, 0.25)
    entries = []
    for at, edit in enumerate(edits):
        frame = frame_of(slow_state(dimension, many, edits[:at + 1]))
        exchanges = []
        if frame[2]:
            for _ in range(rng.choice((0, 0, 1, 2, 6))):
                long = rng.choice((1, 1, 2, 3))
                exchanges.append(tuple((rng.randrange(len(frame[2])), rng.randrange(dimension)) for _ in range(long)))
        entries.append((edit, tuple(exchanges), draw_parting(rng, frame[1])))
    return (dimension, many, tuple(entries))


def formed_logs(seed, times, long=8):
    rng = drawn(seed)
    for _ in range(times):
        for dimension in (1, 3, 6):
            yield draw_formed(rng, dimension, rng.randint(1, 8), rng.randint(0, long))


def number(word):
    """The integer that a word tells, None if it tells none."""
    digits = word[1:] if word[:1] == "-" else word
    if not digits or len(digits) > 12 or any(sign not in "0123456789" for sign in digits):
        return None
    return int(word) if str(int(word)) == word else None


def parsed(text):
    """The LOG that a text would tell, whatever is wrong with it; None if its lines aren't those of a LOG."""
    lines = [line.split(" ") for line in text.split("\n")]
    if lines[0][0] != "live" or len(lines[0]) != 3:
        return None
    entries, at = [], 1
    while at < len(lines):
        edit, exchanges = parsed_edit(lines[at]), []
        at += 1
        while at < len(lines) and lines[at][0] == "exchange":
            numbers = [number(word) for word in lines[at][1:]]
            if len(numbers) % 2:
                return None
            exchanges.append(tuple(zip(numbers[::2], numbers[1::2])))
            at += 1
        if at == len(lines) or lines[at][0] != "lots":
            return None
        entries.append((edit, tuple(exchanges), tuple(number(word) for word in lines[at][1:])))
        at += 1
    return (number(lines[0][1]), number(lines[0][2]), tuple(entries))


def parsed_edit(words):
    if words[0] == "join":
        return ("join", *words[1:2], *map(number, words[2:]))
    if words[0] == "part":
        return ("part", *map(number, words[1:]))
    if words[0] == "place":
        thing = words[2:]
        if thing == ["none"]:
            told = None
        elif thing == ["held"]:
            told = ()
        elif thing[:1] == ["at"]:
            told = tuple(map(number, thing[1:]))
        elif thing[:1] == ["from"] and "to" in thing:
            middle = thing.index("to")
            told = (tuple(map(number, thing[1:middle])), tuple(map(number, thing[middle + 1:])))
        else:
            told = "none of these"
        return ("place", number(words[1]) if len(words) > 1 else None, told)
    return tuple(words)


def is_text(text):
    """Whether it is the text of a formed LOG: of the one that it tells."""
    log = parsed(text)
    if log is None:
        return False
    try:
        return log_text(log) == text
    except BadLog:
        return False


def full_lines(words):
    """Lines that begin with these words and might be right."""
    def filled(shape):
        # None stands for a number that may be any: the word that is there, or one of two others.
        for other in ("0", "1"):
            last = len(shape) - 1
            yield [
                words[at] if word is None and at < len(words) else (other if at == last else "0") if word is None else word
                for at, word in enumerate(shape)
            ]

    shapes = [["live", d, m] for d in "136" for m in "12345678"] + [["body"]]
    shapes += [["join", kind, str(a), str(b)] for kind in ("bar", "pin", "hinge", "weld") for b in range(8) for a in range(b)]
    shapes += [["part", str(tag)] for tag in range(12)]
    for tag in [str(tag) for tag in range(12)]:
        shapes += [["place", tag, "none"], ["place", tag, "held"], ["place", tag, "at", None, None]]
        shapes += [["place", tag, "from", *[None] * n, "to", *[None] * n] for n in (2, 3)]
    pairs = max(1, len(words) // 2)
    shapes += [["exchange"] + [None] * (2 * pairs), ["exchange"] + [None] * (2 * pairs + 2)]
    shapes += [["lots"] + [None] * many for many in range(1, 9)]
    for shape in shapes:
        for line in filled(shape) if None in shape else [shape]:
            if line[:len(words)] == words:
                yield line


def may_go_on(row):
    """Whether some text of a formed LOG begins with these words and ends of lines."""
    lines, words = [], []
    for token in row:
        if token[0] == "word":
            words.append(token[1])
        elif token == "end of line":
            lines.append(words)
            words = []
        else:
            return is_text("\n".join(" ".join(words) for words in lines))
    tails = [[]] + [[["lots"] + ["0"] * many] for many in range(1, 9)]
    for line in full_lines(words) if words else [None]:
        for tail in tails:
            whole = lines + ([line] if line else []) + tail
            if is_text("\n".join(" ".join(words) for words in whole)):
                return True
    return False


class Texts(unittest.TestCase):
    def test_there_and_back(self):
        words = set()
        for log in formed_logs(740, 40):
            text = log_text(log)
            self.assertEqual(read_log(text), log)
            self.assertIsNone(log_text_fault(text))
            words |= {tuple(line.split(" ")[:3:2]) for line in text.split("\n") if line.startswith("place")}
            words |= {tuple(line.split(" ")[:2]) for line in text.split("\n") if line.startswith("join")}
            words |= {line for line in text.split("\n") if line == "body"}
        for word in ("none", "held", "at", "from"):
            self.assertIn(("place", word), words)
        for kind in {kind for kinds in KINDS.values() for kind in kinds}:
            self.assertIn(("join", kind), words)
        self.assertIn("body", words)
        for live, _, _ in live_frames(741, 8, 40):
            log = live.log()
            self.assertEqual(read_log(log_text(log)), log)

    def test_examples(self):
        self.assertEqual(log_text(GOOD), TEXT)
        self.assertEqual(read_log(TEXT), GOOD)
        self.assertEqual(log_text((6, 8, ())), "live 6 8")
        self.assertEqual(read_log("live 1 1"), (1, 1, ()))
        log = (6, 1, (
            (("body",), (), (0, 0)), (("join", "hinge", 0, 1), (((0, 5), (0, 4)),), (0, 1)),
            (("place", 0, ((1, -2, 3), (-10 ** 9, 10 ** 9, 0))), (), (0, 0)), (("place", 0, None), (), (0, 0)),
            (("join", "weld", 0, 1), (), (0, 0)), (("place", 1, ()), (), (0, 0)), (("part", 1), (), (0, 0)),
        ))
        text = (
            "live 6 1\nbody\nlots 0 0\njoin hinge 0 1\nexchange 0 5 0 4\nlots 0 1\n"
            "place 0 from 1 -2 3 to -1000000000 1000000000 0\nlots 0 0\nplace 0 none\nlots 0 0\njoin weld 0 1\nlots 0 0\n"
            "place 1 held\nlots 0 0\npart 1\nlots 0 0"
        )
        self.assertEqual(log_text(log), text)
        self.assertEqual(read_log(text), log)
        self.assertEqual(read_log("live 3 2\njoin pin 0 1\nlots 0 1\nplace 0 at 5 -7\nlots 0 0")[2][1][0], ("place", 0, (5, -7)))

    def test_formed_though_not_right(self):
        text = TEXT.replace("exchange 0 1", "exchange 0 0 0 0 0 2").replace("lots 0 0", "lots 0 1")
        self.assertIsNone(log_text_fault(text))
        log = read_log(text)
        self.assertEqual(log_text(log), text)
        self.assertEqual(log_fault(log), (0, "exchange"))
        self.assertEqual(log_fault(read_log(log_text(MENDED).replace("lots 0 0", "lots 0 1", 1))), None)
        self.assertEqual(log_fault(read_log(log_text(MENDED).replace("lots 0 0", "lots 0 1"))), (1, "count"))
        self.assertEqual(log_fault(read_log(log_text(MENDED).replace("lots 0 1", "lots 0 0"))), (3, "count"))

    def test_no_string(self):
        for value in [value for value in STRANGE if type(value) is not str] + [0, ("live 3 2",), TEXT.split("\n")]:
            self.assertEqual(log_text_fault(value), (None, None))
            with self.assertRaises(BadText) as caught:
                read_log(value)
            self.assertEqual((caught.exception.line, caught.exception.word), (None, None))


class Faults(unittest.TestCase):
    def check(self, text, fault):
        self.assertEqual(log_text_fault(text), fault)
        if fault is not None:
            with self.assertRaises(BadText) as caught:
                read_log(text)
            self.assertEqual((caught.exception.line, caught.exception.word), fault)

    def test_by_all_that_may_follow(self):
        rng = drawn(745)
        told = []
        for log in formed_logs(746, 14, 5):
            text = log_text(log)
            for bent in changed_texts(rng, text, 10):
                fault = log_text_fault(bent)
                if fault is None:
                    self.assertTrue(is_text(bent), bent)
                    continue
                row = tokens(bent)
                at = [place for _, place in row].index(fault)
                ahead = [token for token, _ in row[:at]]
                self.assertTrue(at == 0 or may_go_on(ahead), (bent, fault))
                self.assertFalse(may_go_on(ahead + [row[at][0]]), (bent, fault))
                told.append("word" if row[at][0][0] == "word" else row[at][0])
        self.assertGreater(told.count("word"), 100)
        self.assertGreater(told.count("end of line"), 15)
        self.assertGreater(told.count("end of text"), 4)

    def check_line(self, line, word, lines=5):
        """A line instead of the told number of lines of TEXT and all behind."""
        ahead = TEXT.split("\n")[:lines]
        self.check("\n".join([*ahead, line, "lots 0 1"]), None if word is None else (lines, word))

    def test_the_first_line(self):
        for text, word in (
            ("", 0), ("live", 1), ("Live 3 2", 0), ("frame 3 2", 0), ("live ", 1), ("live 2 2", 1), ("live 3", 2), ("live 3 0", 2),
            ("live 3 9", 2), ("live 3 2 ", 3), ("live 3 2 2", 3), ("live 03 2", 1), ("live 3 02", 2), ("live  3 2", 1),
            ("live 3 " + "2" * 5000, 2), (" live 3 2", 0),
        ):
            self.check(text, (0, word))
            self.check(text + "\nbody", (0, word))
        self.check("live 3 2\n", (1, 0))
        self.check("\nlive 3 2", (0, 0))

    def test_lines_of_edits(self):
        for line, word in (
            ("", 0), (" ", 0), ("Body", 0), ("lots 0 1", 0), ("exchange 0 0", 0), ("edit", 0), ("live 3 2", 0), ("body ", 1),
            ("body 1", 1), ("join", 1), ("join ", 1), ("join hinge 0 1", 1), ("join bar", 2), ("join bar 1 2", 2),
            ("join bar 00 1", 2), ("join bar 0", 3), ("join bar 0 0", 3), ("join bar 0 2", 3), ("join bar 0 1 ", 4),
            ("join bar 0 1 0", 4), ("join bar 0 1", None), ("part", 1), ("part 1", 1), ("part -0", 1), ("part 00", 1),
            ("part " + "0" * 5000, 1), ("part " + "9" * 5000, 1), ("part 0 ", 2), ("part 0", None), ("place", 1), ("place 1", 1),
            ("place 0", 2), ("place 0 ", 2), ("place 0 None", 2), ("place 0 held", 2), ("place 0 from", 2), ("place 0 none ", 3),
            ("place 0 none 0", 3), ("place 0 none", None), ("place 0 at", 3), ("place 0 at 1", 4), ("place 0 at 1 x", 4),
            ("place 0 at 1 1000000001", 4), ("place 0 at " + "1" * 5000, 3), ("place 0 at 1 2 3", 5), ("place 0 at 1 2 ", 5),
            ("place 0 at 1 -2", None), ("place 0 at -0 2", 3), ("place", 1), ("place " + "1" * 5000, 1),
        ):
            self.check_line(line, word)

    def test_places_of_bars_and_welds(self):
        for line, word in (
            ("place 1", 2), ("place 1 at 0 0", 2), ("place 1 held", 2), ("place 1 from 0 0 to 0", 7), ("place 1 from 0 0", 5),
            ("place 1 from 0 0 0", 5), ("place 1 from 0 0 at", 5), ("place 1 from 0 0 to 0 0", 7), ("place 1 from 0 0 to 0 1", None),
            ("place 1 from 0 0 to 0 1 ", 8), ("place 1 none", None), ("place 1 from 5 7 to 5 7", 7), ("place 1 from 5 7 to 5 07", 7),
        ):
            self.check_line(line, word, 8)
        weld = "live 6 2\njoin weld 0 1\nlots 0 0\n"
        for line, word in (("place 0 none", 2), ("place 0 held", None), ("place 0 held ", 3), ("place 0", 2), ("place 0 from", 2)):
            self.check(weld + line + "\nlots 0 0", None if word is None else (3, word))
        bar = "live 1 2\njoin bar 0 1\nlots 0 0\n"
        for line, word in (("place 0 none", 2), ("place 0 held", None)):
            self.check(bar + line + "\nlots 0 0", None if word is None else (3, word))
        space = "live 6 2\njoin hinge 0 1\nlots 0 0\n"
        for line, word in (
            ("place 0 from 1 2 3 to 1 2 3", 9), ("place 0 from 1 2 3 to 1 2 4", None), ("place 0 from 1 2 to", 5),
            ("place 0 from 1 2 3 to 1 2", 9),
        ):
            self.check(space + line + "\nlots 0 0", None if word is None else (3, word))

    def test_lines_within_an_entry(self):
        for line, word in (
            ("body", 0), ("lots", 1), ("lots 0", 2), ("lots 1 0", 1), ("lots 0 2", 2), ("lots 0 1 2", 3), ("lots 0 1 ", 3),
            ("exchange", 1), ("exchange 0", 2), ("exchange 1 0", 1), ("exchange 0 3", 2), ("exchange 0 0 0", 4),
            ("exchange 0 0 ", 3), ("exchange 0 -1", 2), ("exchange 0 0 0 0", None), ("exchange 0 0", None), ("exchange  0 0", 1),
            ("exchange " + "0 " * 79 + "0", None), ("exchange " + "0 " * 80 + "0", 81), ("exchange " + "0 " * 81 + "0", 81),
            ("exchange " + "0 " * 78 + "0", 80), ("exchange " + "0 " * 79 + "3", 80), ("exchange " + "0 " * 78 + "1 0", 79),
            ("exchange " + "0 " * 79 + "3 0", 80), ("exchange " + "0 " * 80 + "9", 81), ("exchange 0 0 " + "x " * 90, 3),
            ("exchange " + "0" * 5000, 1),
        ):
            self.check("live 3 2\njoin pin 0 1\n" + line + "\nlots 0 1", None if word is None else (2, word))
        self.check("live 3 2\njoin pin 0 1\nlots 0 1", None)
        self.check("live 3 2\njoin pin 0 1", (2, 0))
        self.check("live 3 2\njoin pin 0 1\nexchange 0 0", (3, 0))
        self.check("live 3 2\nbody\nexchange 0 0", (2, 0))
        self.check("live 3 2\nbody\nexchange", (2, 0))
        self.check("live 3 2\nbody\nlots 0 1", (2, 3))
        self.check("live 3 2\nbody\nlots 0 1 2", None)
        six = "live 3 2\njoin pin 0 1" + "\nexchange 0 0" * 6
        self.check(six + "\nlots 0 0", None)
        self.check(six + "\nexchange 0 0\nlots 0 0", (8, 0))
        self.check(six + "\nlots 0 0\njoin bar 0 1" + "\nexchange 1 2" * 6 + "\nlots 0 0", None)
        self.check(six, (8, 0))
        # The joints behind the EDIT count.
        self.check("live 3 2\njoin pin 0 1\nlots 0 1\njoin bar 0 1\nexchange 1 0\nlots 0 0", None)
        self.check("live 3 2\njoin pin 0 1\nlots 0 1\npart 0\nexchange 0 0\nlots 0 0", (4, 0))

    def test_no_room(self):
        self.check("live 3 1\njoin bar 0 1", (1, 0))
        self.check("live 3 1\npart 0", (1, 0))
        self.check("live 3 1\nplace 0 none", (1, 0))
        self.check("live 3 8\nbody", (1, 0))
        self.check("live 3 7\nbody\nlots " + "0 " * 7 + "0\nbody", (3, 0))
        forty = "live 3 2" + "\njoin pin 0 1\nlots 0 0" * 40
        self.check(forty, None)
        self.check(forty + "\njoin pin 0 1\nlots 0 0", (81, 0))
        self.check(forty + "\njoin", (81, 0))
        self.check(forty + "\npart 39\nlots 0 0\njoin pin 0 1\nlots 0 0\npart 40\nlots 0 0", None)
        self.check(forty + "\npart 40\nlots 0 0", (81, 1))
        self.check("live 3 2\njoin pin 0 1\nlots 0 0\npart 0\nlots 0 0\npart 0", (5, 0))
        self.check("live 3 2\njoin pin 0 1\nlots 0 0\njoin pin 0 1\nlots 0 0\npart 0\nlots 0 0\npart 0", (7, 1))

    def test_200_entries_and_one_more(self):
        text = "live 1 2"
        for tag in range(100):
            text += f"\njoin bar 0 1\nexchange 0 0\nlots 0 0\npart {tag}\nlots 0 1"
        self.check(text, None)
        self.assertIsNone(log_fault(read_log(text)))
        for line in ("body", "", "join", "part 99", "lots 0 1", "exchange 0 0"):
            self.check(text + "\n" + line, (501, 0))
        live = LiveFrame(1, 2)
        for edit in [entry[0] for entry in read_log(text)[2]]:
            live.do(edit)
        self.assertEqual(log_text(live.log()), text)

    def test_faults_of_logs(self):
        with self.assertRaises(BadLog) as caught:
            log_text(None)
        self.assertEqual((caught.exception.entry, caught.exception.word), (-1, "log"))
