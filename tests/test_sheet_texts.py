"""11.1 and 0.2 (f) and (i): texts of sheets."""

import random
import unittest

from lineasks.errors import NoBack, NoText
from lineasks.sheets import Sheet, read_sheet, sheet_text
from things import ODD, TRUTHS, is_exactly


def filled(row, *names):
    """A sheet with these bytes and names."""
    sheet = Sheet(len(row))
    for at, byte in enumerate(row):
        sheet.lay("x", at, 1)
        sheet.put("x", byte)
        sheet.drop("x")
    for one in names:
        sheet.lay(*one)
    return sheet


PAIRS = (
    ((0,), (), "0\n"),
    ((255,), (("a", 0, 1),), "255\na 0 1\n"),
    ((0,) * 16, (), "0" + " 0" * 15 + "\n"),
    ((255,) * 16, (("z", 12, 4),), "255" + " 255" * 15 + "\nz 12 4\n"),
    ((1, 20, 0, 100, 9), (("b", 0, 2), ("a", 4, 1)), "1 20 0 100 9\na 4 1\nb 0 2\n"),
    ((1, 2), (("abcdef", 1, 1),), "1 2\nabcdef 1 1\n"),
    ((7, 8, 9), (("b", 0, 1), ("ab", 1, 1), ("a", 2, 1)), "7 8 9\na 2 1\nab 1 1\nb 0 1\n"),
    ((10,) * 12, (("k", 10, 2), ("j", 0, 4)), "10" + " 10" * 11 + "\nj 0 4\nk 10 2\n"),
)

RIGHT = "1 20 0 100 9\na 4 1\nb 0 2\n"

NO_TEXTS = (
    "", "\n", "\n\n", " ", " \n", "0", "0 0", "0\n\n", "\n0\n", "0\n0\n", "a 0 1\n", "\na 0 1\n", "0\r\n", "0\n ", "0\n\r",
    # Bytes that are none, and too many.
    "256\n", "-1\n", "+1\n", "999\n", "1000\n", "0 256\n", "256 0\n", "0.0\n", "0x1\n", "1e1\n", "a\n", "0 a\n", "None\n",
    "0" + " 0" * 16 + "\n", "0" + " 0" * 40 + "\n", "9" * 5000 + "\n", "0 " + "9" * 5000 + "\n", "1_0\n", "_1\n",
    # Noughts ahead.
    "00\n", "01\n", "001\n", "000\n", "0 00\n", "0255\n", "0 01\n", "1 2\na 00 1\n", "1 2\na 01 1\n", "1 2\na 0 01\n",
    # Blanks more or fewer, and other ones.
    " 0\n", "0 \n", "0  0\n", " 0 0\n", "0 0 \n", "0\t0\n", "0,0\n", "0, 0\n", "0\u00a00\n", "0\n0\na 0 1\n", "0\x0b0\n",
    "1 2\n a 0 1\n", "1 2\na 0 1 \n", "1 2\na  0 1\n", "1 2\na 0  1\n", "1 2\na0 1\n", "1 2\na 01\n", "1 2\na01\n",
    "1 2\na\t0\t1\n", "1 2\na,0,1\n", "1 2\na 0 1\r\n", "1 2\r\na 0 1\n", "1 2 \na 0 1\n", "1 2\n\na 0 1\n",
    # The last line feed is missing, or there are more.
    "1 2\na 0 1", "1 2\na 0 1\n\n", "1 2\na 0 1\n ", "1 2\na 0 1\nb", "1 2\na 0 1\nb 1 1", "1 2 a 0 1\n", "1 2a 0 1\n",
    # Names told twice, in another order, or that share places.
    "1 2\na 0 1\na 0 1\n", "1 2\na 0 1\na 1 1\n", "1 2\nb 0 1\na 1 1\n", "1 2\nab 0 1\na 1 1\n", "1 2\na 0 1\nb 0 1\n",
    "1 2\na 0 2\nb 0 1\n", "1 2\na 0 2\nb 1 1\n", "1 2\na 1 1\nb 0 2\n", "1 2 3\na 0 1\nc 1 1\nb 2 1\n",
    # Names that are too long, or none.
    "1 2\nabcdefg 0 1\n", "1 2\n 0 1\n", "1 2\nA 0 1\n", "1 2\na1 0 1\n", "1 2\n\u00e4 0 1\n", "1 2\n0 0 1\n", "1 2\n-a 0 1\n",
    "1 2\n\u0430 0 1\n", "1 2\na b 0 1\n",
    # Places that are not there, and too many or too few of them.
    "1 2\na 2 1\n", "1 2\na 1 2\n", "1 2\na 0 3\n", "1 2\na 0 0\n", "1 2\na -1 1\n", "1 2\na +0 1\n", "1 2\na 0 -1\n",
    "0 0 0 0 0 0\na 0 5\n", "0\na 16 1\n", "1 2\na 0 " + "1" * 5000 + "\n", "1 2\na " + "0" * 5000 + " 1\n", "1 2\na 0 256\n",
    # Parts missing, or more than there are.
    "1 2\na\n", "1 2\na 0\n", "1 2\na 0 1 1\n", "1 2\n0 1\n", "1 2\n0 1 a\n", "1 2\n0 a 1\n", "1 2\na one 1\n", "1 2\na 0 b\n",
    "1 2\na  1\n", "1 2\na 0 \n", "1 2\n  \n", "1 2\n \n",
)


def seen(sheet):
    return sheet.row(), sheet.names(), sheet.steps()


class Case(unittest.TestCase):

    def refuses(self, thing):
        with self.subTest(repr(thing)[:200]):
            with self.assertRaises(NoText) as caught:
                read_sheet(thing)
            self.assertIs(type(caught.exception), NoText)

    def exactly(self, told, wanted):
        self.assertTrue(is_exactly(told, wanted), f"{told!r}, not {wanted!r}")


class SheetText(Case):

    def test_as_told(self):
        for row, names, text in PAIRS:
            self.exactly(sheet_text(filled(row, *names)), text)

    def test_new_sheets(self):
        for size in range(1, 17):
            self.exactly(sheet_text(Sheet(size)), " ".join("0" * size) + "\n")

    def test_the_sheet_as_it_is_now(self):
        sheet = Sheet(2)
        sheet.lay("a", 0, 2)
        sheet.put("a", 258)
        self.exactly(sheet_text(sheet), "1 2\na 0 2\n")
        sheet.back()
        self.exactly(sheet_text(sheet), "0 0\na 0 2\n")
        sheet.back()
        self.exactly(sheet_text(sheet), "0 0\n")
        sheet.forth()
        self.exactly(sheet_text(sheet), "0 0\na 0 2\n")

    def test_the_sheet_stays(self):
        sheet = filled((1, 2), ("a", 0, 1))
        sheet.back()
        ahead = seen(sheet)
        sheet_text(sheet)
        self.exactly(seen(sheet), ahead)
        self.exactly(sheet.forth(), "lay")


class ReadSheet(Case):

    def test_as_told(self):
        for row, names, text in PAIRS:
            self.exactly(seen(read_sheet(text)), (row, sorted(names), (0, 0)))

    def test_it_has_no_steps(self):
        sheet = read_sheet(RIGHT)
        self.assertIsInstance(sheet, Sheet)
        self.assertRaises(NoBack, sheet.back)
        self.assertRaises(NoBack, sheet.forth)
        self.exactly(sheet.steps(), (0, 0))

    def test_it_goes_on_as_a_sheet(self):
        sheet = read_sheet(RIGHT)
        self.exactly([sheet.worth("a"), sheet.worth("b")], [9, 276])
        self.exactly(sheet.put("b", 1), 276)
        self.exactly(sheet.drop("a"), (4, 1))
        sheet.lay("c", 2, 3)
        self.exactly(sheet_text(sheet), "0 1 0 100 9\nb 0 2\nc 2 3\n")
        self.exactly([sheet.back(), sheet.back(), sheet.back()], ["lay", "drop", "put"])
        self.assertRaises(NoBack, sheet.back)
        self.exactly(sheet_text(sheet), RIGHT)

    def test_each_is_new(self):
        one, other = read_sheet(RIGHT), read_sheet(RIGHT)
        self.assertIsNot(one, other)
        one.put("a", 1)
        self.exactly(sheet_text(other), RIGHT)

    def test_a_twin_of_it(self):
        sheet = read_sheet(RIGHT)
        twin = sheet.twin()
        twin.drop("a")
        self.exactly(seen(sheet), ((1, 20, 0, 100, 9), [("a", 4, 1), ("b", 0, 2)], (0, 0)))
        self.exactly(seen(twin), ((1, 20, 0, 100, 9), [("b", 0, 2)], (1, 0)))

    def test_all_bytes(self):
        for byte in range(256):
            self.exactly(read_sheet(f"{byte}\n").row(), (byte,))
            self.exactly(read_sheet(f"0 {byte} 0\n").row(), (0, byte, 0))
        for byte in range(256, 1100):
            self.assertRaises(NoText, read_sheet, f"{byte}\n")

    def test_how_many_bytes(self):
        for many in range(25):
            text = " ".join("7" * many) + "\n"
            if 1 <= many <= 16:
                self.exactly(read_sheet(text).row(), (7,) * many)
            else:
                self.refuses(text)

    def test_each_at_and_many(self):
        for size in (1, 4, 16):
            row = " ".join("0" * size) + "\n"
            for at in range(-1, 18):
                for many in range(-1, 7):
                    text = f"{row}a {at} {many}\n"
                    if at >= 0 and 1 <= many <= 4 and at + many <= size:
                        self.exactly(read_sheet(text).names(), [("a", at, many)])
                    else:
                        self.refuses(text)


class Refused(Case):

    def test_texts_of_no_sheet(self):
        for text in NO_TEXTS:
            self.refuses(text)

    def test_any_thing(self):
        for thing in ODD + TRUTHS + (b"0\n", ["0\n"], ("0\n",), [0], (0,), {}, {"0\n": 1}, Sheet(1), ((0,), ()), "1"):
            self.refuses(thing)

    def test_other_figures(self):
        for wrong in "\u0660\u0661\u06f0\u0967\uff10\uff11\u00b2\u00b9\u2460\u2170\U0001d7d8\U0001d7ce\u00bd":
            for text in (f"{wrong}\n", f"1{wrong}\n", f"{wrong} 0\n", f"0 0\na {wrong} 1\n", f"0 0\na 0 {wrong}\n"):
                self.refuses(text)

    def test_other_line_ends(self):
        for end in "\r\x0b\x0c\x1c\x1d\x1e\x85\u2028\u2029":
            self.refuses(f"0 0{end}")
            self.refuses(f"0 0{end}a 0 1\n")
            self.refuses(f"0 0\na 0 1{end}")
            self.refuses(f"0 0\na 0 1{end}b 1 1\n")
            self.refuses(f"0 0\na 0 1{end}\n")

    def test_lines_missing_twice_or_in_another_order(self):
        first, *names = "1 2 3\na 0 1\nb 1 1\nc 2 1\n".splitlines(keepends=True)
        self.refuses("".join(names))
        self.refuses("".join([first, first, *names]))
        self.refuses("".join([*names, first]))
        for order in ((1, 0, 2), (0, 2, 1), (2, 1, 0), (1, 2, 0), (2, 0, 1), (0, 0), (0, 1, 1), (1, 0), (2, 1)):
            self.refuses(first + "".join(names[one] for one in order))
        # Fewer names, rising, are the writing of another sheet.
        for order in ((), (0,), (1,), (0, 2), (1, 2), (0, 1, 2)):
            text = first + "".join(names[one] for one in order)
            self.exactly(sheet_text(read_sheet(text)), text)

    def test_one_sign_more_fewer_or_other(self):
        signs = "0123456789 abzAZ\n\t-"
        for text in ("0\n", RIGHT, "1 2\nabcdef 1 1\n", "255\na 0 1\n"):
            near = {text[:at] + text[at + 1:] for at in range(len(text))}
            near |= {text[:at] + sign + text[at:] for at in range(len(text) + 1) for sign in signs}
            near |= {text[:at] + sign + text[at + 1:] for at in range(len(text)) for sign in signs}
            read = 0
            for one in sorted(near):
                # Some are texts of other sheets, and write those again; all others are refused.
                try:
                    sheet = read_sheet(one)
                except NoText:
                    continue
                self.exactly(sheet_text(sheet), one)
                self.assertRegex(one, r"\A(0|[1-9][0-9]{0,2})( (0|[1-9][0-9]{0,2})){0,15}\n"
                                      r"([a-z]{1,6} (0|[1-9]|1[0-5]) [1-4]\n)*\Z")
                read += 1
            self.assertGreater(read, 0)


class BackAgain(Case):

    def some_sheet(self, chance):
        size = chance.randint(1, 16)
        row = [chance.choice((0, 9, 10, 99, 100, 255, chance.randrange(256))) for k in range(size)]
        names, at, told = [], 0, set()
        while at < size:
            many = chance.randint(1, min(4, size - at))
            name = "".join(chance.choice("abz") for k in range(chance.randint(1, 6)))
            if chance.random() < 0.6 and name not in told:
                names.append((name, at, many))
                told.add(name)
            at += many
        chance.shuffle(names)
        return row, names

    def test_by_chance(self):
        chance = random.Random(111)
        for run in range(300):
            row, names = self.some_sheet(chance)
            sheet = filled(row, *names)
            lines = [" ".join(map(str, row))] + [" ".join(map(str, one)) for one in sorted(names)]
            text = "\n".join(lines) + "\n"
            self.exactly(sheet_text(sheet), text)
            again = read_sheet(text)
            self.exactly(seen(again), (tuple(row), sorted(names), (0, 0)))
            self.exactly(sheet_text(again), text)

    def test_names_in_another_order_by_chance(self):
        chance = random.Random(112)
        for run in range(200):
            row, names = self.some_sheet(chance)
            lines = [" ".join(map(str, row))] + [" ".join(map(str, one)) for one in names]
            text = "\n".join(lines) + "\n"
            if names == sorted(names):
                self.exactly(read_sheet(text).names(), names)
            else:
                self.refuses(text)

    def test_the_same_again(self):
        sheet = filled((1, 2), ("a", 0, 1))
        self.exactly(sheet_text(sheet), sheet_text(sheet))
        self.exactly(seen(read_sheet(RIGHT)), seen(read_sheet(RIGHT)))

    def test_what_is_handed_in_is_as_it_was(self):
        thing = ["0\n", ["a"]]
        self.refuses(thing)
        self.assertEqual(thing, ["0\n", ["a"]])


if __name__ == "__main__":
    unittest.main()
