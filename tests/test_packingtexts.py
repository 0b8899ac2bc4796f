"""[38], [39]: texts of PACKINGS."""

import unittest

from bodybars.errors import BadFrame, BadPacking, BadText
from bodybars.packingtexts import packing_text, packing_text_fault, read_packing
from tests.helper import (
    FRAMES, STRANGE, Judge, Spiteful, changed_texts, draw_frames, draw_packing, drawn, slow_packings,
)


def text_of(packing):
    return "\n".join(["packing", *[" ".join(["joint", *map(str, numbers)]) for numbers in packing]])


class PackingTexts(unittest.TestCase):
    frame = (3, 3, (("pin", 0, 1), ("bar", 0, 1), ("weld", 1, 2), ("pin", 0, 2)))

    def check(self, text, line, word, frame=None):
        frame = frame or self.frame
        self.assertEqual(packing_text_fault(frame, text), (line, word), text)
        with self.assertRaises(BadText) as caught:
            read_packing(frame, text)
        self.assertEqual((caught.exception.line, caught.exception.word), (line, word))

    def test_there_and_back(self):
        packing = ((0, 2), (1,), (0, 1, 2), ())
        text = "packing\njoint 0 2\njoint 1\njoint 0 1 2\njoint"
        self.assertEqual(packing_text(self.frame, packing), text)
        self.assertEqual(read_packing(self.frame, text), packing)
        self.assertEqual(packing_text((3, 1, ()), ()), "packing")
        self.assertEqual(read_packing((3, 1, ()), "packing"), ())
        rng = drawn(23)
        for frame in FRAMES + tuple(draw_frames(24, 60, 8, 40)):
            packing = draw_packing(rng, frame)
            text = packing_text(frame, packing)
            self.assertEqual(text, text_of(packing))
            self.assertIsNone(packing_text_fault(frame, text))
            self.assertEqual(read_packing(frame, text), packing)

    def test_by_all_texts(self):
        rng = drawn(25)
        for frame in (
            (3, 1, ()), (1, 3, (("bar", 0, 1), ("weld", 0, 2), ("bar", 1, 2))),
            (3, 2, (("pin", 0, 1), ("weld", 0, 1))), (3, 3, (("pin", 0, 1), ("bar", 1, 2), ("pin", 0, 2))),
            (6, 2, (("hinge", 0, 1), ("bar", 0, 1))),
        ):
            texts = [text_of(packing) for packing in slow_packings(frame)]
            judge = Judge(texts)
            for text in rng.sample(texts, min(12, len(texts))):
                for changed in changed_texts(rng, text, 100):
                    fault = judge.fault(changed)
                    self.assertEqual(packing_text_fault(frame, changed), fault, changed[:200])
                    if fault is None:
                        self.assertEqual(packing_text(frame, read_packing(frame, changed)), changed)

    def test_each_place(self):
        for text, line, word in (
            ("", 0, 0), ("packings", 0, 0), (" packing", 0, 0), ("packing ", 0, 1), ("packing 4", 0, 1),
            ("packing", 1, 0), ("packing\n", 1, 0), ("packing\njoints 0", 1, 0), ("packing\n joint 0", 1, 0),
            ("packing\njoint ", 1, 1), ("packing\njoint  0", 1, 1), ("packing\njoint 3", 1, 1),
            ("packing\njoint -0", 1, 1), ("packing\njoint 00", 1, 1), ("packing\njoint 0 0", 1, 2),
            ("packing\njoint 1 0", 1, 2), ("packing\njoint 0 1 2", 1, 3), ("packing\njoint 0 1 ", 1, 3),
            ("packing\njoint 0 1\njoint 1", 2, 1), ("packing\njoint 0 1\njoint 2 ", 2, 2),
            ("packing\njoint 0 1\njoint 2\njoint 0 1 2\njoint 0", 4, 1),
            ("packing\njoint 0\njoint 2\njoint 0 1\njoint 0", 4, 1),
            ("packing\njoint 0\njoint 2\njoint 0 2\njoint 1 2", 4, 2),
            ("packing\njoint 0\njoint 2\njoint 0 1 2 3", 3, 4), ("packing\njoint 0 1\njoint 2\njoint 0 1 2", 4, 0),
            ("packing\njoint\njoint\njoint\njoint\n", 5, 0), ("packing\njoint\njoint\njoint\njoint\njoint", 5, 0),
            ("packing\njoint\njoint\njoint", 4, 0), ("packing\njoint " + "1" * 5000, 1, 1),
            ("packing\njoint 0\njoint 1 " + "1" * 5000, 2, 2), ("packing\njoint\n\njoint\njoint", 2, 0),
        ):
            self.check(text, line, word)
        self.check("packing\n", 1, 0, (3, 1, ()))
        self.check("packing\njoint", 1, 0, (3, 1, ()))
        self.check("packing\njoint 1", 1, 1, (1, 2, (("weld", 0, 1),)))
        self.check("packing\njoint 0 1 2 3 4 5", 1, 6, (6, 2, (("hinge", 0, 1),)))

    def test_no_string(self):
        for value in tuple(value for value in STRANGE if type(value) is not str) + (0, ()):
            self.check(value, None, None)

    def test_the_frame_then_the_packing(self):
        for call in (
            lambda: packing_text(None, None), lambda: read_packing(None, None),
            lambda: packing_text_fault(None, Spiteful()),
        ):
            with self.assertRaises(BadFrame):
                call()
        with self.assertRaises(BadPacking) as caught:
            packing_text(self.frame, ((0,), (0,), (), ()))
        self.assertEqual(caught.exception.place, (1, 0))
