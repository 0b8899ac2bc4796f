"""[38], [39]: texts of PLACEMENTS."""

import re
import unittest

from bodybars.errors import BadFrame, BadPlacement, BadText
from bodybars.placementtexts import placement_text, placement_text_fault, read_placement
from tests.helper import (
    FRAMES, STRANGE, STRANGE_WORDS, Spiteful, changed_texts, draw_frames, draw_placement, drawn, tokens,
)

FAR = 10 ** 9
FRAME = (3, 3, (("bar", 0, 1), ("pin", 1, 2), ("weld", 0, 2)))
SPACE = (6, 3, (("bar", 0, 1), ("hinge", 1, 2), ("weld", 0, 2)))


def slow_fault(frame, text):
    """The first fault, token after token: what may stand there depends on the kind of the joint alone."""
    due = ["placement", None]
    for kind, _, _ in frame[2]:
        place = [int] * (2 if frame[0] == 3 else 3)
        if frame[0] == 1 or kind == "weld":
            due += ["held", None]
        elif kind == "pin":
            due += ["at", *place, None]
        else:
            due += ["from", *place, "to", *place[1:], list, None]
    told = tokens(text)
    for (token, place), asked in zip(told, due + [tuple]):
        word = token[1] if token[0] == "word" else None
        if asked is None:
            fits = token == "end of line"
        elif asked is tuple:
            fits = token == "end of text"
        elif word is None or type(asked) is str:
            fits = word == asked
        else:
            fits = re.fullmatch("0|-?[1-9][0-9]{0,9}", word) is not None and -FAR <= int(word) <= FAR
            if fits and asked is list:
                words = text.split("\n")[place[0]].split(" ")
                width = 2 if frame[0] == 3 else 3
                fits = words[1:width + 1] != words[width + 2:2 * width + 2]
        if not fits:
            return place
    return None


class PlacementTexts(unittest.TestCase):
    def check(self, frame, text, line, word):
        self.assertEqual(placement_text_fault(frame, text), (line, word), text)
        with self.assertRaises(BadText) as caught:
            read_placement(frame, text)
        self.assertEqual((caught.exception.line, caught.exception.word), (line, word))

    def test_there_and_back(self):
        placement = (((0, -1), (2, 3)), (-5, FAR), ())
        text = "placement\nfrom 0 -1 to 2 3\nat -5 1000000000\nheld"
        self.assertEqual(placement_text(FRAME, placement), text)
        self.assertEqual(read_placement(FRAME, text), placement)
        text = "placement\nfrom 0 0 0 to 0 0 1\nfrom 1 2 3 to -1 -2 -3\nheld"
        self.assertEqual(read_placement(SPACE, text), (((0, 0, 0), (0, 0, 1)), ((1, 2, 3), (-1, -2, -3)), ()))
        self.assertEqual(placement_text((1, 2, (("bar", 0, 1), ("weld", 0, 1))), ((), ())), "placement\nheld\nheld")
        self.assertEqual(placement_text((6, 1, ()), ()), "placement")
        rng = drawn(28)
        for frame in FRAMES + tuple(draw_frames(29, 60, 8, 40)):
            for far in (1, FAR):
                placement = draw_placement(rng, frame, far)
                text = placement_text(frame, placement)
                self.assertIsNone(placement_text_fault(frame, text))
                self.assertEqual(read_placement(frame, text), placement)

    def test_changed_texts(self):
        rng = drawn(30)
        for frame in (FRAME, SPACE, (6, 1, ()), (1, 2, (("bar", 0, 1),)), *draw_frames(31, 10, 4, 4)):
            for far in (1, 1, FAR):
                text = placement_text(frame, draw_placement(rng, frame, far))
                for changed in changed_texts(rng, text, 120):
                    fault = slow_fault(frame, changed)
                    self.assertEqual(placement_text_fault(frame, changed), fault, changed[:200])
                    if fault is None:
                        self.assertEqual(placement_text(frame, read_placement(frame, changed)), changed)

    def test_each_place(self):
        head = "placement\nfrom 0 0 to 0 1\n"
        for text, line, word in (
            ("", 0, 0), ("placements", 0, 0), ("placement ", 0, 1), ("placement", 1, 0), ("placement\n", 1, 0),
            ("placement\nat 0 0", 1, 0), ("placement\nfrom", 1, 1), ("placement\nfrom ", 1, 1),
            ("placement\nfrom 0 0", 1, 3), ("placement\nfrom 0 0 1", 1, 3), ("placement\nfrom 0 0 to", 1, 4),
            ("placement\nfrom 0 0 to 0 0", 1, 5), ("placement\nfrom -7 12 to -7 12", 1, 5),
            ("placement\nfrom -7 12 to -7 12 5", 1, 5), ("placement\nfrom -7 12 to -7", 1, 5),
            ("placement\nfrom 0 0 to 0 1 ", 1, 6), ("placement\nfrom 0 0 to 0 1 2", 1, 6),
            ("placement\nfrom 0 0 to 0 1000000001", 1, 5), ("placement\nfrom 0 -1000000001 to 0 0", 1, 2),
            ("placement\nfrom -0 0 to 0 1", 1, 1), ("placement\nfrom 0 00 to 0 1", 1, 2),
            ("placement\nfrom 0 +1 to 0 0", 1, 2), ("placement\nfrom 0 0 to 0 01", 1, 5),
            ("placement\nfrom 0 0  to 0 1", 1, 3), ("placement\nfrom 0 0 To 0 1", 1, 3), (head, 2, 0),
            (head + "at 0", 2, 2), (head + "at 0 ", 2, 2), (head + "at 0 0 0", 2, 3), (head + "held", 2, 0),
            (head + "from 0 0 to 0 1", 2, 0), (head + "at 0 0", 3, 0), (head + "at 0 0\n", 3, 0),
            (head + "at 0 0\nheld ", 3, 1), (head + "at 0 0\nheld 0", 3, 1), (head + "at 0 0\nheld\n", 4, 0),
            (head + "at 0 0\nheld\nheld", 4, 0), (head + "at 0 0\nat 0 0", 3, 0),
            (head + "at 0 " + "1" * 5000, 2, 2), (head + "at -" + "1" * 5000 + " 0", 2, 1),
            (head + "at 0 " + "0" * 5000, 2, 2), (head + "at 1_0 0", 2, 1), (head + "at 0x1 0", 2, 1),
        ):
            self.check(FRAME, text, line, word)
        self.check(SPACE, "placement\nfrom 0 0 to 0 1", 1, 3)
        self.check(SPACE, "placement\nfrom 1 2 3 to 1 2 3", 1, 7)
        self.check(SPACE, "placement\nfrom 1 2 3 to 1 2 4\nfrom 5 5 5 to 5 5 5\nheld", 2, 7)
        self.check((1, 2, (("bar", 0, 1),)), "placement\nfrom 0 to 1", 1, 0)
        self.check((1, 2, (("bar", 0, 1),)), "placement", 1, 0)
        self.check((1, 1, ()), "placement\nheld", 1, 0)

    def test_greatest_coordinates(self):
        text = "placement\nfrom 1000000000 -1000000000 to -1000000000 1000000000\nat 999999999 -999999999\nheld"
        self.assertIsNone(placement_text_fault(FRAME, text))
        self.assertEqual(read_placement(FRAME, text), (((FAR, -FAR), (-FAR, FAR)), (FAR - 1, 1 - FAR), ()))

    def test_strange_words(self):
        for word in STRANGE_WORDS:
            fits = word in ("-1", "9")
            for text, place in ((f"from 0 {word} to 0 1\nat 0 0\nheld", (1, 2)), (f"from 0 0 to 0 {word}", (1, 5))):
                fault = placement_text_fault(FRAME, "placement\n" + text)
                self.assertEqual(fault != place, fits, word)

    def test_no_string(self):
        for value in tuple(value for value in STRANGE if type(value) is not str) + (0, ()):
            self.check(FRAME, value, None, None)

    def test_the_frame_then_the_placement(self):
        for call in (
            lambda: placement_text(None, None), lambda: read_placement(None, None),
            lambda: placement_text_fault(None, Spiteful()),
        ):
            with self.assertRaises(BadFrame):
                call()
        for value, number in ((None, -1), ((), -1), ((((0, 0), (0, 1)), (0,), None), 1)):
            with self.assertRaises(BadPlacement) as caught:
                placement_text(FRAME, value)
            self.assertEqual(caught.exception.number, number)
