"""6.1 and 0.2 (f): texts of frames."""

import random
import unittest

from lineasks.errors import NoFrame, NoText
from lineasks.texts import frame_text, read_frame
from things import ODD, checked, is_exactly, with_one

PAIRS = (
    ((0, 0), "00 00"), ((1, 255), "01 ff"), ((255, 1), "ff 01"), ((5, 1, 0, 10, 240), "05 01 00 0a f0"),
    ((5, 1, 0, 10, 255, 241), "05 01 00 0a ff f1"), ((160, 96), "a0 60"), ((10, 246), "0a f6"),
    ((0,) * 20, "00" + " 00" * 19), ((255,) * 19 + (19,), "ff " * 19 + "13"),
    ((171, 205, 239, 153), "ab cd ef 99"),
)


class FrameText(unittest.TestCase):

    def test_as_told(self):
        for frame, text in PAIRS:
            with self.subTest(text):
                self.assertTrue(is_exactly(frame_text(frame), text), frame_text(frame))

    def test_all_bytes(self):
        signs = "0123456789abcdef"
        for byte in range(256):
            one = signs[byte // 16] + signs[byte % 16]
            other = signs[-byte % 256 // 16] + signs[-byte % 16]
            self.assertEqual(frame_text((byte, -byte % 256)), one + " " + other)

    def test_what_is_no_frame(self):
        for thing in ODD + ((5, 1, 0, 10, 255), [1, 255], "01 ff", (0,) * 21, (0,), ("01", "ff")):
            with self.subTest(repr(thing)):
                with self.assertRaises(NoFrame) as caught:
                    frame_text(thing)
                self.assertIs(type(caught.exception), NoFrame)


OTHER_SIGNS = ("gGzZAF-+._ xX%#'\"\\/:;@`~{|}\n\t\r\x00\x0b\x1c\x85\u00a0\u00b2\u00b9\u0660\u0661\u06f0\u0967"
               "\uff10\uff11\uff41\uff46\u0430\u0435\U0001d7d8\U0001d7ce\u2460\u2170\u00e9")


class ReadFrame(unittest.TestCase):

    def refuses(self, thing):
        with self.subTest(repr(thing)):
            with self.assertRaises(NoText) as caught:
                read_frame(thing)
            self.assertIs(type(caught.exception), NoText)

    def test_as_told(self):
        for frame, text in PAIRS:
            with self.subTest(text):
                self.assertTrue(is_exactly(read_frame(text), frame), read_frame(text))

    def test_all_bytes(self):
        for byte in range(256):
            self.assertEqual(read_frame(f"{byte:02x} {-byte % 256:02x}"), (byte, -byte % 256))

    def test_how_many_bytes(self):
        for many in range(0, 40):
            text = " ".join(["00"] * many)
            if 2 <= many <= 20:
                self.assertEqual(read_frame(text), (0,) * many)
            else:
                self.refuses(text)

    def test_bytes_that_make_no_frame(self):
        # The row of bytes that the document shows leaves 15 of 256.
        for text in ("05 01 00 0a ff", "00 01", "01 fe", "ff ff", "00", "ff", "05 01 00 0a f1", "80 80 80"):
            self.refuses(text)

    def test_great_letters(self):
        for text in ("0A f6", "0a F6", "01 FF", "01 Ff", "01 fF", "AB CD EF 99", "FF 01"):
            self.refuses(text)

    def test_blanks_more_or_fewer(self):
        for text in (" 01 ff", "01 ff ", " 01 ff ", "01  ff", "01ff", "0 1 f f", "01 f f", "01\tff", "01\nff",
                     "01 ff\n", "\n01 ff", "01 \nff", "01\u00a0ff", "01\u2003ff", "01,ff", "01, ff", "01-ff", "01:ff",
                     "05 01 000a f0", "05 01 00  0a f0", "", " ", "  ", "   ", "01 ff\r\n", "01\x00ff", "01 ff\x00"):
            self.refuses(text)

    def test_fewer_or_more_signs(self):
        for text in ("1 ff", "001 ff", "01 f", "01 0ff", "0 0", "000 000", "00 0", "0 00", "1 255", "0x01 0xff",
                     "0x ff", "01 fff", "f f f"):
            self.refuses(text)

    def test_other_signs(self):
        for wrong in OTHER_SIGNS:
            for at in (0, 1, 3, 4):
                self.refuses("01 ff"[:at] + wrong + "01 ff"[at + 1:])
                self.refuses("00 00"[:at] + wrong + "00 00"[at + 1:])
        for text in ("+1 ff", "-1 01", "-0 00", "+0 00", "0_ 00", "_0 00", "1_ ff", " 0 00", "00  0", "0\n 00",
                     "\u0660\u0660 00", "\uff10\uff10 \uff10\uff10", "\u0660\u0661 ff", "a\u0660 60"):
            self.refuses(text)

    def test_other_signs_whatever_they_would_be_worth(self):
        for wrong in OTHER_SIGNS:
            for byte in range(256):
                self.assertRaises(NoText, read_frame, f"0{wrong} {byte:02x}")
                self.assertRaises(NoText, read_frame, f"{wrong}0 {byte:02x}")

    def test_any_thing(self):
        for thing in ODD + ((1, 255), [1, 255], ["01 ff"], ("01 ff",), ("01", "ff"), ["01", "ff"], b"01 ff", 1, "1 255",
                            "(1, 255)", "[1, 255]", "None", "read", None, [[["01 ff"]]]):
            self.refuses(thing)

    def test_one_sign_more_fewer_or_other(self):
        signs = "0123456789abcdef ABCDEF\n"
        for frame, text in PAIRS[:6]:
            near = {text[:at] + text[at + 1:] for at in range(len(text))}
            near |= {text[:at] + sign + text[at:] for at in range(len(text) + 1) for sign in signs}
            near |= {text[:at] + sign + text[at + 1:] for at in range(len(text)) for sign in signs} - {text}
            for one in near:
                self.refuses(one)


class BackAgain(unittest.TestCase):

    def test_frames_by_chance(self):
        chance = random.Random(61)
        for run in range(400):
            frame = checked(*[chance.randrange(256) for k in range(chance.randint(1, 19))])
            text = frame_text(frame)
            self.assertEqual(len(text), 3 * len(frame) - 1)
            self.assertTrue(is_exactly(read_frame(text), frame))
            self.assertEqual(frame_text(read_frame(text)), text)

    def test_frames_spoilt_at_one_place(self):
        for frame in ((0, 0), (5, 1, 0, 10, 240)):
            for at in range(len(frame)):
                for byte in range(256):
                    if byte != frame[at]:
                        spoilt = with_one(frame, at, byte)
                        self.assertRaises(NoFrame, frame_text, spoilt)
                        self.assertRaises(NoText, read_frame, " ".join(f"{one:02x}" for one in spoilt))

    def test_the_same_again(self):
        self.assertEqual(frame_text((1, 255)), frame_text((1, 255)))
        self.assertEqual(read_frame("01 ff"), read_frame("01 ff"))

    def test_what_is_handed_in_is_as_it_was(self):
        thing = [1, [255]]
        self.assertRaises(NoFrame, frame_text, thing)
        self.assertRaises(NoText, read_frame, thing)
        self.assertEqual(thing, [1, [255]])


if __name__ == "__main__":
    unittest.main()
