"""Sheets, on which places have names, which go back, and their texts."""

from lineasks.errors import NoBack, NoName, NoNumber, NoText, Taken
from lineasks.wholes import is_byte_tuple, is_whole

LETTERS = "abcdefghijklmnopqrstuvwxyz"
FIGURES = "0123456789"

MOST_PLACES = 16


def is_name(thing):
    """Whether any thing is a name."""
    return isinstance(thing, str) and 1 <= len(thing) <= 6 and all([sign in LETTERS for sign in thing])


def row_number(row):
    """The number of which these are the bytes, the great ones first."""
    number = 0
    for byte in row:
        number = number * 256 + byte
    return number


def number_row(number, many):
    """So many bytes of a number, the great ones first."""
    row = ()
    for again in range(many):
        row = (number % 256, *row)
        number = number // 256
    return row


class Sheet:
    """Places with bytes in them, and names for some of them."""

    def __init__(self, size):
        if not is_whole(size, 1, MOST_PLACES):
            raise NoNumber("not a number of places")
        # A state is the word of the step that led to it, all bytes, and the names,
        # rising. The last one is that of now; one stands ahead of it for each step,
        # and those that were taken back wait to be done again, the last first.
        self.states = [(None, (0,) * size, ())]
        self.taken_back = []

    def lay(self, name, at, many):
        """A name is for so many places from at on."""
        if not is_whole(many, 1, 4) or not is_whole(at, 0, len(self.row()) - many):
            raise NoNumber("not from 1 to 4 places that are there")
        if not is_name(name):
            raise NoName("not a name")
        names = self.names()
        for laid, begin, long in names:
            if laid == name or (begin < at + many and at < begin + long):
                raise Taken("the name or one of the places is taken")
        self.do_step("lay", self.row(), [*names, (name, at, many)])

    def drop(self, name):
        """A name goes; its tuple (at, many)."""
        at, many = self.places_of(name)
        self.do_step("drop", self.row(), [one for one in self.names() if one[0] != name])
        return (at, many)

    def put(self, name, number):
        """The places of a name get the bytes of a number; the number that stood there."""
        at, many = self.places_of(name)
        if not is_whole(number, 0, row_number((255,) * many)):
            raise NoNumber("not a number that these places can have")
        ahead = self.worth(name)
        row = self.row()
        self.do_step("put", row[:at] + number_row(number, many) + row[at + many:], self.names())
        return ahead

    def worth(self, name):
        """The number that the places of a name have."""
        at, many = self.places_of(name)
        return row_number(self.row()[at:at + many])

    def row(self):
        """All bytes."""
        return self.states[-1][1]

    def names(self):
        """A rising list of tuples (name, at, many)."""
        return list(self.states[-1][2])

    def back(self):
        """Takes the last step back; its word."""
        if len(self.states) == 1:
            raise NoBack("there is no step to take back")
        self.taken_back.append(self.states.pop())
        return self.taken_back[-1][0]

    def forth(self):
        """Does the step again that was taken back last; its word."""
        if not self.taken_back:
            raise NoBack("there is no step to do again")
        self.states.append(self.taken_back.pop())
        return self.states[-1][0]

    def steps(self):
        """How many steps can be taken back, and how many done again."""
        return (len(self.states) - 1, len(self.taken_back))

    def twin(self):
        """A sheet that is as this one, and goes by itself from now on."""
        other = Sheet(len(self.row()))
        other.states = list(self.states)
        other.taken_back = list(self.taken_back)
        return other

    def places_of(self, name):
        """The (at, many) of a name that is there."""
        for laid, at, many in self.names():
            if laid == name:
                return (at, many)
        raise NoName("there is no such name")

    def do_step(self, word, row, names):
        """The sheet has this row and these names from now on."""
        self.states.append((word, row, tuple(sorted(names))))
        self.taken_back = []


def sheet_text(sheet):
    """The writing of a sheet."""
    text = " ".join([str(byte) for byte in sheet.row()]) + "\n"
    for name, at, many in sheet.names():
        text += f"{name} {at} {many}" + "\n"
    return text


def written_number(text):
    """The number that up to three figures write, perhaps with noughts ahead; NoText of other texts."""
    # int takes signs, blanks and other figures too.
    if not 1 <= len(text) <= 3 or not all([sign in FIGURES for sign in text]):
        raise NoText("not a number")
    return int(text)


def lay_written(sheet, line):
    """Lays the name that a line tells; NoText of lines that tell none."""
    parts = line.split(" ")
    if len(parts) != 3:
        raise NoText("not a name and two numbers")
    name, at, many = parts
    try:
        sheet.lay(name, written_number(at), written_number(many))
    except (NoNumber, NoName, Taken):
        raise NoText("not a name that this sheet can have") from None


def read_sheet(text):
    """A new sheet of which any thing is the writing, without steps."""
    if not isinstance(text, str):
        raise NoText("not a text")
    first, *lines = text.split("\n")
    row = tuple([written_number(part) for part in first.split(" ")])
    if not is_byte_tuple(row, 1, MOST_PLACES):
        raise NoText("not the bytes of a sheet")
    sheet = Sheet(len(row))
    for line in lines[:-1]:
        lay_written(sheet, line)
    # Laying the names was no step of the new sheet.
    sheet.states = [(None, row, tuple(sheet.names()))]
    # Noughts ahead, names that do not rise and a last line without its line feed
    # come up to here, but no sheet is written so.
    if sheet_text(sheet) != text:
        raise NoText("not the writing of a sheet")
    return sheet
