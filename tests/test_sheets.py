"""10.1, 10.2 and 0.2 (i): sheets, their names, and their steps."""

import random
import unittest

from lineasks.errors import NoBack, NoName, NoNumber, Taken
from lineasks.sheets import Sheet
from things import ODD, TRUTHS, is_exactly

NO_NAMES = (
    "", "abcdefg", "abcdefgh", "A", "aB", "Ab", "Z", "a1", "1", "0", "a b", " a", "a ", " ", "a\n", "\na", "\n", "a_b", "_",
    "a-b", "a.b", "`", "{", "@", "[", "a\x00", "\u00e4", "\u00e9a", "\u0430", "\u03b1", "\u00df", "\uff41", "\u0131", "\u01c6",
    "\u00aa", "\u2170", "\U0001d41a", "a\u0301", None, True, False, 0, 1, -1, 97, (), [], ("a",), ["a"], ("a", 0, 1),
    ["a", "b"], [[["a"]]], b"a", {}, {"a": 1}, "a" * 100,
)


def is_name(thing):
    """Whether a thing is a name, worked out apart from the program."""
    return type(thing) is str and 1 <= len(thing) <= 6 and all(97 <= ord(sign) <= 122 for sign in thing)


def seen(sheet):
    """All that a sheet tells of itself."""
    names = sheet.names()
    return sheet.row(), names, [sheet.worth(name) for name, at, many in names], sheet.steps()


def history(sheet):
    """All that a sheet tells of itself, and of all that it can take back or do again, as a twin does it."""
    told = [seen(sheet)]
    for action in ("back", "forth"):
        other = sheet.twin()
        while True:
            try:
                told.append((action, getattr(other, action)(), seen(other)))
            except NoBack:
                break
    return told


def made():
    """A sheet with some names, and one step that was taken back."""
    sheet = Sheet(8)
    sheet.lay("b", 1, 2)
    sheet.lay("a", 4, 1)
    sheet.put("b", 515)
    sheet.put("a", 9)
    sheet.back()
    return sheet


class Case(unittest.TestCase):

    def refuses(self, kind, action, *given):
        with self.subTest(repr(given)[:200]):
            with self.assertRaises(kind) as caught:
                action(*given)
            self.assertIs(type(caught.exception), kind)

    def exactly(self, told, wanted):
        self.assertTrue(is_exactly(told, wanted), f"{told!r}, not {wanted!r}")


class Made(Case):

    def test_sizes(self):
        for size in range(-3, 30):
            if 1 <= size <= 16:
                self.exactly(seen(Sheet(size)), ((0,) * size, [], [], (0, 0)))
            else:
                self.refuses(NoNumber, Sheet, size)

    def test_any_thing(self):
        for thing in ODD + TRUTHS + ("4", [4], (4,), {}, b"\x04"):
            if not (type(thing) is int and 1 <= thing <= 16):
                self.refuses(NoNumber, Sheet, thing)

    def test_each_by_itself(self):
        one, other = Sheet(2), Sheet(2)
        one.lay("a", 0, 2)
        one.put("a", 5)
        self.exactly(seen(other), ((0, 0), [], [], (0, 0)))


class Lay(Case):

    def test_as_told(self):
        sheet = Sheet(5)
        self.assertIsNone(sheet.lay("b", 0, 2))
        self.exactly(sheet.names(), [("b", 0, 2)])
        self.assertIsNone(sheet.lay("a", 4, 1))
        self.assertIsNone(sheet.lay("ab", 2, 1))
        self.exactly(sheet.names(), [("a", 4, 1), ("ab", 2, 1), ("b", 0, 2)])
        self.exactly(sheet.row(), (0,) * 5)
        self.exactly(sheet.steps(), (3, 0))

    def test_each_at_and_many(self):
        for size in (1, 2, 4, 5, 15, 16):
            for at in range(-2, 19):
                for many in range(-2, 8):
                    sheet = Sheet(size)
                    if at >= 0 and 1 <= many <= 4 and at + many <= size:
                        sheet.lay("a", at, many)
                        self.exactly(sheet.names(), [("a", at, many)])
                    else:
                        self.refuses(NoNumber, sheet.lay, "a", at, many)
                        self.exactly(seen(sheet), ((0,) * size, [], [], (0, 0)))

    def test_names(self):
        for name in ("a", "z", "m", "ab", "zz", "abcdef", "zzzzzz", "aaaaaa", "none", "lay"):
            sheet = Sheet(4)
            sheet.lay(name, 1, 2)
            self.exactly(sheet.names(), [(name, 1, 2)])

    def test_all_letters(self):
        for code in range(0, 300):
            sheet = Sheet(1)
            if 97 <= code <= 122:
                sheet.lay(chr(code), 0, 1)
            else:
                self.refuses(NoName, sheet.lay, chr(code), 0, 1)
                self.refuses(NoName, sheet.lay, "a" + chr(code), 0, 1)
                self.refuses(NoName, sheet.lay, chr(code) + "a", 0, 1)

    def test_what_is_no_name(self):
        sheet = made()
        ahead = history(sheet)
        for thing in NO_NAMES + ODD:
            if not is_name(thing):
                self.refuses(NoName, sheet.lay, thing, 0, 1)
                self.refuses(NoName, sheet.lay, thing, 5, 3)
        self.exactly(history(sheet), ahead)

    def test_any_at_and_many(self):
        sheet = made()
        ahead = history(sheet)
        for thing in ODD + TRUTHS:
            if type(thing) is not int:
                self.refuses(NoNumber, sheet.lay, "c", thing, 1)
                self.refuses(NoNumber, sheet.lay, "c", 0, thing)
                self.refuses(NoNumber, sheet.lay, "c", thing, thing)
        self.exactly(history(sheet), ahead)

    def test_taken_by_name(self):
        sheet = made()
        ahead = history(sheet)
        for at, many in ((0, 1), (5, 3), (7, 1), (1, 2), (0, 4)):
            self.refuses(Taken, sheet.lay, "b", at, many)
        self.refuses(Taken, sheet.lay, "a", 0, 1)
        self.refuses(Taken, sheet.lay, "a", 4, 1)
        self.exactly(history(sheet), ahead)

    def test_taken_by_place(self):
        for begin in range(0, 9):
            for long in range(1, 5):
                for at in range(0, 9):
                    for many in range(1, 5):
                        sheet = Sheet(12)
                        sheet.lay("a", begin, long)
                        if set(range(begin, begin + long)) & set(range(at, at + many)):
                            self.refuses(Taken, sheet.lay, "b", at, many)
                            self.exactly(sheet.names(), [("a", begin, long)])
                            self.exactly(sheet.steps(), (1, 0))
                        else:
                            sheet.lay("b", at, many)
                            self.exactly(sheet.names(), [("a", begin, long), ("b", at, many)])

    def test_a_place_of_any_name(self):
        sheet = Sheet(6)
        for at, name in enumerate(("c", "a", "b")):
            sheet.lay(name, at * 2, 1)
        for at in (0, 2, 4):
            self.refuses(Taken, sheet.lay, "d", at, 1)
            self.refuses(Taken, sheet.lay, "d", at, 2)
        for at, name in ((1, "d"), (3, "e"), (5, "f")):
            sheet.lay(name, at, 1)
        self.exactly(len(sheet.names()), 6)

    def test_sixteen_names(self):
        sheet = Sheet(16)
        for at in range(16):
            sheet.lay("zyxwvutsrqponmlk"[at], at, 1)
        self.exactly(sheet.names(), [(name, 15 - k, 1) for k, name in enumerate("klmnopqrstuvwxyz")])

    def test_which_refusal_comes_first(self):
        sheet = made()
        ahead = history(sheet)
        for at, many in ((0, 0), (0, 5), (-1, 1), (8, 1), (7, 2), (1, 9), (None, 1), (0, True), (True, 1)):
            # NoNumber ahead of NoName and of Taken.
            self.refuses(NoNumber, sheet.lay, "", at, many)
            self.refuses(NoNumber, sheet.lay, "A", at, many)
            self.refuses(NoNumber, sheet.lay, None, at, many)
            self.refuses(NoNumber, sheet.lay, "b", at, many)
            self.refuses(NoNumber, sheet.lay, "c", at, many)
        for name in ("", "B", "abcdefg", None, ["b"], True):
            # NoName ahead of Taken.
            self.refuses(NoName, sheet.lay, name, 1, 2)
            self.refuses(NoName, sheet.lay, name, 4, 1)
        self.refuses(Taken, sheet.lay, "b", 1, 2)
        self.exactly(history(sheet), ahead)

    def test_a_name_has_what_stands_there(self):
        sheet = Sheet(4)
        sheet.lay("a", 0, 4)
        sheet.put("a", 0x01020304)
        sheet.drop("a")
        sheet.lay("b", 1, 2)
        self.exactly(sheet.worth("b"), 0x0203)
        self.exactly(sheet.row(), (1, 2, 3, 4))


class Drop(Case):

    def test_as_told(self):
        sheet = made()
        self.exactly(sheet.drop("b"), (1, 2))
        self.exactly(sheet.names(), [("a", 4, 1)])
        self.exactly(sheet.row(), (0, 2, 3, 0, 0, 0, 0, 0))
        self.exactly(sheet.drop("a"), (4, 1))
        self.exactly(sheet.names(), [])
        self.exactly(sheet.steps(), (5, 0))

    def test_the_name_and_its_places_are_free_again(self):
        sheet = made()
        sheet.drop("b")
        sheet.lay("b", 5, 3)
        sheet.lay("c", 0, 4)
        self.exactly(sheet.names(), [("a", 4, 1), ("b", 5, 3), ("c", 0, 4)])

    def test_not_there(self):
        sheet = made()
        ahead = history(sheet)
        for name in ("c", "aa", "ab", "bb", "aaaaaa", "none") + NO_NAMES + ODD:
            if name not in ("a", "b"):
                self.refuses(NoName, sheet.drop, name)
        self.exactly(history(sheet), ahead)
        sheet.drop("a")
        self.refuses(NoName, sheet.drop, "a")
        self.refuses(NoName, Sheet(1).drop, "a")


class Put(Case):

    def test_the_great_ones_first(self):
        sheet = Sheet(6)
        sheet.lay("a", 1, 4)
        self.exactly(sheet.put("a", 0x01020304), 0)
        self.exactly(sheet.row(), (0, 1, 2, 3, 4, 0))
        self.exactly(sheet.put("a", 5), 0x01020304)
        self.exactly(sheet.row(), (0, 0, 0, 0, 5, 0))
        self.exactly(sheet.worth("a"), 5)

    def test_the_others_stay(self):
        sheet = Sheet(7)
        for name, at, many in (("a", 0, 2), ("b", 2, 3), ("c", 5, 2)):
            sheet.lay(name, at, many)
            sheet.put(name, 255 if many == 2 else 65535)
        self.exactly(sheet.row(), (0, 255, 0, 255, 255, 0, 255))
        self.exactly(sheet.put("b", 0x070809), 65535)
        self.exactly(sheet.row(), (0, 255, 7, 8, 9, 0, 255))

    def test_each_end(self):
        for many in range(1, 5):
            for at in (0, 3, 8 - many):
                sheet = Sheet(8)
                sheet.lay("a", at, many)
                most = (1 << 8 * many) - 1
                ahead = 0
                for number in (most, 0, 1, most - 1, 255, 128, most // 2, most // 2 + 1):
                    self.exactly(sheet.put("a", number), ahead)
                    self.exactly(sheet.worth("a"), number)
                    self.exactly(sheet.row()[at:at + many], tuple(number.to_bytes(many, "big")))
                    ahead = number
                before = history(sheet)
                for number in (-1, most + 1, most + 2, -most, 10 ** 30, -10 ** 30):
                    self.refuses(NoNumber, sheet.put, "a", number)
                self.exactly(history(sheet), before)

    def test_any_number(self):
        sheet = made()
        ahead = history(sheet)
        for thing in ODD + TRUTHS + ("5", [5], (5,), b"\x05", {}):
            if type(thing) is not int:
                self.refuses(NoNumber, sheet.put, "b", thing)
        self.exactly(history(sheet), ahead)

    def test_no_name_comes_first(self):
        sheet = made()
        ahead = history(sheet)
        for name in ("c", "aa", "bb") + NO_NAMES + ODD:
            if name not in ("a", "b"):
                for number in (0, 1, -1, 10 ** 30, None, True, [], "5"):
                    self.refuses(NoName, sheet.put, name, number)
        self.exactly(history(sheet), ahead)

    def test_the_number_that_stood_there(self):
        sheet = Sheet(2)
        sheet.lay("a", 0, 2)
        sheet.put("a", 300)
        sheet.drop("a")
        sheet.lay("b", 0, 1)
        self.exactly(sheet.put("b", 7), 1)
        self.exactly(sheet.row(), (7, 44))


class Worth(Case):

    def test_as_told(self):
        sheet = made()
        self.exactly(sheet.worth("b"), 515)
        self.exactly(sheet.worth("a"), 0)
        sheet.put("a", 255)
        self.exactly(sheet.worth("a"), 255)

    def test_not_there(self):
        sheet = made()
        ahead = history(sheet)
        for name in ("c", "aa", "bb") + NO_NAMES + ODD:
            if name not in ("a", "b"):
                self.refuses(NoName, sheet.worth, name)
        self.exactly(history(sheet), ahead)
        sheet.drop("b")
        self.refuses(NoName, sheet.worth, "b")


class Told(Case):

    def test_each_list_is_new(self):
        sheet = made()
        told = sheet.names()
        told.append(None)
        told[0] = 5
        self.exactly(sheet.names(), [("a", 4, 1), ("b", 1, 2)])
        self.assertIsNot(sheet.names(), sheet.names())
        empty = Sheet(1)
        empty.names().append(1)
        self.exactly(empty.names(), [])

    def test_told_lists_stay_as_they_are(self):
        sheet = made()
        names, row = sheet.names(), sheet.row()
        sheet.drop("a")
        sheet.put("b", 0)
        self.exactly(names, [("a", 4, 1), ("b", 1, 2)])
        self.exactly(row, (0, 2, 3, 0, 0, 0, 0, 0))

    def test_asking_is_no_step(self):
        sheet = made()
        for again in range(2):
            self.exactly(seen(sheet), ((0, 2, 3, 0, 0, 0, 0, 0), [("a", 4, 1), ("b", 1, 2)], [0, 515], (3, 1)))
        self.exactly(sheet.forth(), "put")


class BackAndForth(Case):

    def test_no_back_at_both_ends(self):
        sheet = Sheet(3)
        self.refuses(NoBack, sheet.back)
        self.refuses(NoBack, sheet.forth)
        sheet.lay("a", 0, 1)
        self.refuses(NoBack, sheet.forth)
        self.exactly(sheet.back(), "lay")
        self.refuses(NoBack, sheet.back)
        self.exactly(seen(sheet), ((0, 0, 0), [], [], (0, 1)))
        self.exactly(sheet.forth(), "lay")
        self.refuses(NoBack, sheet.forth)
        self.exactly(seen(sheet), ((0, 0, 0), [("a", 0, 1)], [0], (1, 0)))

    def test_through_all_steps(self):
        sheet = Sheet(6)
        steps = (("lay", "b", 0, 2), ("put", "b", 513), ("lay", "a", 3, 3), ("put", "b", 513), ("put", "a", 1),
                 ("drop", "b"), ("put", "a", 0), ("lay", "b", 1, 1), ("drop", "a"), ("drop", "b"))
        told = [seen(sheet)[:3]]
        for word, *given in steps:
            getattr(sheet, word)(*given)
            told.append(seen(sheet)[:3])
        for again in range(2):
            for at in range(len(steps), 0, -1):
                self.exactly(sheet.back(), steps[at - 1][0])
                self.exactly(seen(sheet), told[at - 1] + ((at - 1, len(steps) - at + 1),))
            self.refuses(NoBack, sheet.back)
            for at in range(len(steps)):
                self.exactly(sheet.forth(), steps[at][0])
                self.exactly(seen(sheet), told[at + 1] + ((at + 1, len(steps) - at - 1),))
            self.refuses(NoBack, sheet.forth)

    def test_a_put_that_changed_nothing(self):
        sheet = Sheet(1)
        sheet.lay("a", 0, 1)
        self.exactly(sheet.put("a", 0), 0)
        self.exactly(sheet.put("a", 0), 0)
        self.exactly(sheet.steps(), (3, 0))
        self.exactly([sheet.back(), sheet.back(), sheet.back()], ["put", "put", "lay"])
        self.exactly(sheet.steps(), (0, 3))

    def test_a_put_that_changed_nothing_is_a_step_since(self):
        sheet = made()
        sheet.put("b", 515)
        self.refuses(NoBack, sheet.forth)
        self.exactly(sheet.steps(), (4, 0))

    def test_forth_behind_another_step(self):
        for word, *given in (("lay", "c", 0, 1), ("put", "b", 1), ("drop", "a")):
            sheet = made()
            self.exactly(sheet.steps(), (3, 1))
            getattr(sheet, word)(*given)
            self.exactly(sheet.steps(), (4, 0))
            self.refuses(NoBack, sheet.forth)
            self.exactly(sheet.back(), word)
            self.exactly(sheet.steps(), (3, 1))
            self.exactly(sheet.back(), "put")
            self.exactly([sheet.forth(), sheet.forth()], ["put", word])
            self.refuses(NoBack, sheet.forth)

    def test_what_is_refused_leaves_what_can_be_done_again(self):
        for kind, word, *given in (
                (NoNumber, "lay", "c", 8, 1), (NoName, "lay", "C", 0, 1), (Taken, "lay", "a", 0, 1),
                (Taken, "lay", "c", 4, 1), (NoName, "drop", "c"), (NoName, "put", "c", 1), (NoNumber, "put", "a", 256),
                (NoName, "worth", "c")):
            sheet = made()
            ahead = history(sheet)
            self.refuses(kind, getattr(sheet, word), *given)
            self.exactly(history(sheet), ahead)
            self.exactly(sheet.forth(), "put")
            self.exactly(sheet.worth("a"), 9)

    def test_no_back_changes_nothing(self):
        sheet = made()
        sheet.forth()
        ahead = history(sheet)
        self.refuses(NoBack, sheet.forth)
        self.exactly(history(sheet), ahead)
        sheet = Sheet(2)
        ahead = history(sheet)
        self.refuses(NoBack, sheet.back)
        self.exactly(history(sheet), ahead)

    def test_steps_are_tuples(self):
        sheet = made()
        self.exactly(sheet.steps(), (3, 1))
        sheet.back()
        self.exactly(sheet.steps(), (2, 2))


class Model:
    """A sheet as whole copies, one for each step."""

    def __init__(self, size):
        self.past = [(None, [0] * size, {})]
        self.gone = []

    def lay(self, name, at, many):
        word, row, names = self.past[-1]
        if not (1 <= many <= 4 and 0 <= at <= len(row) - many):
            return NoNumber
        if not is_name(name):
            return NoName
        if name in names or any(place in range(*names[one]) for one in names for place in range(at, at + many)):
            return Taken
        return self.step("lay", row, {**names, name: (at, at + many)}, None)

    def drop(self, name):
        word, row, names = self.past[-1]
        if name not in names:
            return NoName
        at, end = names[name]
        return self.step("drop", row, {one: names[one] for one in names if one != name}, (at, end - at))

    def put(self, name, number):
        word, row, names = self.past[-1]
        if name not in names:
            return NoName
        at, end = names[name]
        if not 0 <= number < 256 ** (end - at):
            return NoNumber
        new = row[:at] + list(number.to_bytes(end - at, "big")) + row[end:]
        return self.step("put", new, names, int.from_bytes(bytes(row[at:end]), "big"))

    def step(self, word, row, names, told):
        self.past.append((word, row, names))
        self.gone = []
        return told

    def back(self):
        if len(self.past) == 1:
            return NoBack
        self.gone.append(self.past.pop())
        return self.gone[-1][0]

    def forth(self):
        if not self.gone:
            return NoBack
        self.past.append(self.gone.pop())
        return self.past[-1][0]

    def seen(self):
        word, row, names = self.past[-1]
        rising = sorted((name, at, end - at) for name, (at, end) in names.items())
        worths = [sum(row[at + k] << 8 * (many - 1 - k) for k in range(many)) for name, at, many in rising]
        return tuple(row), rising, worths, (len(self.past) - 1, len(self.gone))


class ByChance(Case):

    def step(self, chance, size):
        name = chance.choice(("a", "b", "ab", "z", "B", ""))
        return chance.choice((
            ("lay", name, chance.randint(-1, size), chance.randint(0, 5)),
            ("lay", name, chance.randint(0, size - 1), chance.randint(1, 2)),
            ("drop", name), ("put", name, chance.choice((0, 255, 256, 65535, 65536, -1, 1 << 32, chance.randrange(999)))),
            ("put", name, chance.randrange(256)), ("back",), ("back",), ("forth",), ("forth",), ("twin",)))

    def test_like_the_model(self):
        chance = random.Random(101)
        for run in range(150):
            size = chance.randint(1, 16)
            sheet, model = Sheet(size), Model(size)
            for again in range(80):
                word, *given = self.step(chance, size)
                if word == "twin":
                    sheet = sheet.twin()
                else:
                    wanted = getattr(model, word)(*given)
                    if isinstance(wanted, type):
                        self.refuses(wanted, getattr(sheet, word), *given)
                    else:
                        self.exactly(getattr(sheet, word)(*given), wanted)
                self.exactly(seen(sheet), model.seen())


class Twin(Case):

    def test_as_this_one(self):
        sheet = Sheet(5)
        self.exactly(history(sheet.twin()), history(sheet))
        sheet = made()
        twin = sheet.twin()
        self.assertIsInstance(twin, Sheet)
        self.assertIsNot(twin, sheet)
        self.exactly(seen(twin), seen(sheet))
        self.exactly(history(twin), history(sheet))
        self.exactly(twin.forth(), "put")
        self.refuses(NoBack, twin.forth)
        self.exactly([twin.back() for k in range(4)], ["put", "put", "lay", "lay"])
        self.refuses(NoBack, twin.back)

    def test_each_goes_by_itself(self):
        for word, *given in (("lay", "c", 0, 1), ("put", "b", 1), ("put", "b", 515), ("drop", "a"), ("back",), ("forth",)):
            for twin_first in (False, True):
                sheet = made()
                twin = sheet.twin()
                changed, left = (twin, sheet) if twin_first else (sheet, twin)
                ahead = history(left)
                getattr(changed, word)(*given)
                self.exactly(history(left), ahead)
                self.assertNotEqual(history(changed), ahead)

    def test_a_twin_of_a_twin(self):
        sheet = made()
        one = sheet.twin()
        other = one.twin()
        one.put("b", 1)
        other.put("b", 2)
        self.exactly([sheet.worth("b"), one.worth("b"), other.worth("b")], [515, 1, 2])


if __name__ == "__main__":
    unittest.main()
