"""[37], [39]: texts of FRAMES and of PARTINGS."""

import itertools
import unittest

from bodybars.errors import BadFrame, BadNumber, BadParting, BadText
from bodybars.frametexts import (
    frame_text, frame_text_fault, parting_text, parting_text_fault, read_frame, read_parting,
)
from tests.helper import (
    FRAMES, KINDS, STRANGE, STRANGE_WORDS, Judge, Spiteful, changed_texts, draw_frames, drawn, slow_partings,
)


def frame_texts(dimension, many, most):
    """All texts of such FRAMES with at most so many joints."""
    ends = list(itertools.combinations(range(many), 2))
    lines = [f"{kind} {one} {other}" for kind in KINDS[dimension] for one, other in ends]
    for joints in range(most + 1):
        for rows in itertools.product(lines, repeat=joints):
            yield "\n".join([f"frame {dimension} {many}", *rows])


class FrameTexts(unittest.TestCase):
    def check(self, text, line, word):
        self.assertEqual(frame_text_fault(text), (line, word), text[:80])
        with self.assertRaises(BadText) as caught:
            read_frame(text)
        self.assertEqual((caught.exception.line, caught.exception.word), (line, word))

    def test_there_and_back(self):
        self.assertEqual(frame_text((3, 3, (("pin", 0, 2), ("bar", 0, 1)))), "frame 3 3\npin 0 2\nbar 0 1")
        self.assertEqual(frame_text((1, 1, ())), "frame 1 1")
        for frame in FRAMES + tuple(draw_frames(20, 60, 8, 40)):
            text = frame_text(frame)
            self.assertIsNone(frame_text_fault(text))
            self.assertEqual(read_frame(text), frame)

    def test_by_all_texts_of_small_frames(self):
        rng = drawn(21)
        heads = [f"frame {dimension} {many}" for dimension in (1, 3, 6) for many in range(1, 9)]
        for dimension, many, most in ((1, 1, 0), (1, 2, 5), (3, 2, 4), (6, 3, 3)):
            texts = list(frame_texts(dimension, many, most))
            judge = Judge([*heads, *texts])
            # The judge knows no FRAME with more joints, so a line must have room.
            short = [text for text in texts if text.count("\n") < most] or texts
            for text in rng.sample(short, min(8, len(short))):
                for changed in changed_texts(rng, text, 150):
                    head = changed.split("\n")[0]
                    if head in heads and head != text.split("\n")[0] and "\n" in changed:
                        continue
                    fault = judge.fault(changed)
                    self.assertEqual(frame_text_fault(changed), fault, changed[:200])
                    if fault is None:
                        self.assertEqual(frame_text(read_frame(changed)), changed)

    def test_the_head(self):
        for text, word in (
            ("", 0), ("\n", 0), (" frame 3 2", 0), ("Frame 3 2", 0), ("frames 3 2", 0), ("frame", 1), ("frame ", 1),
            ("frame  3 2", 1), ("frame 2 2", 1), ("frame 03 2", 1), ("frame +3 2", 1), ("frame 3", 2), ("frame 3 ", 2),
            ("frame 3 0", 2), ("frame 3 9", 2), ("frame 3 -1", 2), ("frame 3 08", 2), ("frame 3 2 ", 3),
            ("frame 3 2 2", 3), ("frame\n3 2", 1), ("frame 3\n2", 2), ("frame 3 " + "1" * 5000, 2),
            ("frame 3 2\t", 2), ("frame " + "3" * 5000 + " 2", 1), ("frame 3 2 \nbar 0 1", 3),
        ):
            self.check(text, 0, word)

    def test_joints(self):
        for text, word in (
            ("", 0), (" bar 0 1", 0), ("hinge 0 1", 0), ("joint 0 1", 0), ("bar", 1), ("bar ", 1), ("bar  0 1", 1),
            ("bar 2 1", 1), ("bar -1 1", 1), ("bar -0 1", 1), ("bar 00 1", 1), ("bar 3 2", 1), ("bar 0", 2),
            ("bar 0 ", 2), ("bar 0 0", 2), ("bar 1 0", 2), ("bar 1 1", 2), ("bar 0 3", 2), ("bar 0 1 ", 3),
            ("bar 0 1 2", 3), ("bar 0  1", 2), ("bar 0 " + "1" * 5000, 2), ("bar " + "0" * 5000 + " 1", 1),
            ("bar 1_0 2", 1), ("bar 0 +1", 2), ("bar 0 01", 2), ("bar 0 \u0661", 2), ("bar 0 1\r", 2),
        ):
            self.check("frame 3 3\n" + text, 1, word)
            self.check("frame 3 3\npin 1 2\n" + text + "\nnothing", 2, word)

    def test_a_line_too_many(self):
        self.check("frame 3 1\n", 1, 0)
        self.check("frame 3 1\nbar 0 1", 1, 0)
        self.check("frame 3 2" + "\nbar 0 1" * 41, 41, 0)
        self.check("frame 3 2" + "\nbar 0 1" * 40 + "\n", 41, 0)
        self.check("frame 3 2" + "\nbar 0 1" * 60 + "\nx", 41, 0)
        self.assertIsNone(frame_text_fault("frame 3 2" + "\nbar 0 1" * 40))

    def test_no_string(self):
        for value in tuple(value for value in STRANGE if type(value) is not str) + (0, (), ("frame 3 2",)):
            self.check_no_string(value)

    def check_no_string(self, value):
        self.assertEqual(frame_text_fault(value), (None, None))
        with self.assertRaises(BadText) as caught:
            read_frame(value)
        self.assertEqual((caught.exception.line, caught.exception.word), (None, None))

    def test_no_frame(self):
        for value in STRANGE:
            with self.assertRaises(BadFrame):
                frame_text(value)


class PartingTexts(unittest.TestCase):
    def check(self, many, text, line, word):
        self.assertEqual(parting_text_fault(many, text), (line, word))
        with self.assertRaises(BadText) as caught:
            read_parting(many, text)
        self.assertEqual((caught.exception.line, caught.exception.word), (line, word))

    def test_there_and_back(self):
        self.assertEqual(parting_text((0, 1, 0, 2)), "lots 0 1 0 2")
        self.assertEqual(parting_text((0,)), "lots 0")
        for many in range(1, 7):
            for parting in slow_partings(many):
                text = parting_text(parting)
                self.assertIsNone(parting_text_fault(many, text))
                self.assertEqual(read_parting(many, text), parting)
        self.assertEqual(read_parting(8, "lots 0 1 2 3 4 5 6 7"), tuple(range(8)))

    def test_by_all_texts(self):
        rng = drawn(22)
        for many in range(1, 7):
            texts = ["lots " + " ".join(map(str, parting)) for parting in slow_partings(many)]
            judge = Judge(texts)
            for text in rng.sample(texts, min(10, len(texts))):
                for changed in changed_texts(rng, text, 60):
                    fault = judge.fault(changed)
                    self.assertEqual(parting_text_fault(many, changed), fault, changed[:200])
                    if fault is None:
                        self.assertEqual(parting_text(read_parting(many, changed)), changed)

    def test_each_place(self):
        for text, line, word in (
            ("", 0, 0), ("lot 0 0 0", 0, 0), (" lots 0 0 0", 0, 0), ("lots", 0, 1), ("lots ", 0, 1), ("lots 1 0 0", 0, 1),
            ("lots  0 0 0", 0, 1), ("lots 0", 0, 2), ("lots 0 2 0", 0, 2), ("lots 0 1 3", 0, 3), ("lots 0 0 2", 0, 3),
            ("lots 0 1 -1", 0, 3), ("lots 0 1 01", 0, 3), ("lots 0 1 +1", 0, 3), ("lots 0 1", 0, 3), ("lots 0 1 ", 0, 3),
            ("lots 0 1 1 ", 0, 4), ("lots 0 1 1 1", 0, 4), ("lots 0 1 1\n", 1, 0), ("lots 0 1 1\nlots 0 1 1", 1, 0),
            ("lots 0 1 1 \n", 0, 4), ("lots\n0 1 1", 0, 1), ("lots 0 1 " + "2" * 5000, 0, 3), ("lots -0 1 1", 0, 1),
        ):
            self.check(3, text, line, word)
        for word in STRANGE_WORDS:
            self.check(2, f"lots 0 {word}", 0, 2)

    def test_no_string(self):
        for value in tuple(value for value in STRANGE if type(value) is not str) + (0, ()):
            self.check(3, value, None, None)

    def test_many_comes_first(self):
        for many in STRANGE + (0, 9):
            for function in (read_parting, parting_text_fault):
                with self.assertRaises(BadNumber) as caught:
                    function(many, Spiteful())
                self.assertIs(caught.exception.value, many)

    def test_no_parting(self):
        for value, place in (*((value, -1) for value in STRANGE), ((), -1), ((0,) * 9, -1), ((0, 2), 1)):
            with self.assertRaises(BadParting) as caught:
                parting_text(value)
            self.assertEqual(caught.exception.place, place)
