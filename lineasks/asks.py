"""Asks and answers, and the frames that they go in."""

from lineasks.errors import NoAsk, NoFrame
from lineasks.frames import framed, is_frame
from lineasks.wholes import is_byte_tuple, is_whole

# The second byte of a frame tells the word of its ask or answer.
READ = 1
WRITE = 2
VALUES = 129
DONE = 130
UNREAD = 131
UNWRITTEN = 132


def is_station_number(thing):
    """Whether any thing is the number of one station."""
    return is_whole(thing, 1, 99)


def is_sixteenth(thing):
    """Whether any thing can be the number of an ask, or its at."""
    return is_whole(thing, 0, 15)


def are_values(thing):
    """Whether any thing can be the values of an ask or an answer."""
    return is_byte_tuple(thing, 1, 8)


def is_ask(thing):
    """Whether any thing is an ask."""
    if not isinstance(thing, tuple) or len(thing) != 5:
        return False
    word, station, number, at, wanted = thing
    if not is_sixteenth(number) or not is_sixteenth(at):
        return False
    if word == "read":
        return is_station_number(station) and is_whole(wanted, 1, 8)
    if word == "write":
        # Station 0 stands for all stations.
        return is_whole(station, 0, 99) and are_values(wanted)
    return False


def ask_frame(ask):
    """The frame of an ask."""
    if not is_ask(ask):
        raise NoAsk("not an ask")
    word, station, number, at, wanted = ask
    if word == "read":
        return framed((station, READ, number, at, wanted))
    return framed((station, WRITE, number, at, *wanted))


def ask_within(frame):
    """What would be the ask of a frame, if it is of one; else perhaps None."""
    if len(frame) < 5:
        return None
    station, kind, number, at, *rest = frame[:-1]
    if kind == READ:
        return ("read", station, number, at, *rest)
    if kind == WRITE:
        return ("write", station, number, at, tuple(rest))
    return None


def frame_ask(frame):
    """The ask that a frame is of, or None."""
    if not is_frame(frame):
        raise NoFrame("not a frame")
    ask = ask_within(frame)
    return ask if is_ask(ask) else None


def is_answer(thing):
    """Whether any thing is an answer."""
    if not isinstance(thing, tuple) or len(thing) < 3:
        return False
    word, station, number, *rest = thing
    if not is_station_number(station) or not is_sixteenth(number):
        return False
    if word == "done":
        return len(rest) == 0
    if len(rest) != 1:
        return False
    if word == "values":
        return are_values(rest[0])
    return word in ("unread", "unwritten") and is_whole(rest[0], 1, 2)


def answer_frame(answer):
    """The frame of an answer."""
    if not is_answer(answer):
        raise NoAsk("not an answer")
    word, station, number, *rest = answer
    if word == "values":
        values = rest[0]
        return framed((station, VALUES, number, *values))
    if word == "done":
        return framed((station, DONE, number))
    if word == "unread":
        return framed((station, UNREAD, number, *rest))
    return framed((station, UNWRITTEN, number, *rest))


def answer_within(frame):
    """What would be the answer of a frame, if it is of one; else perhaps None."""
    if len(frame) < 4:
        return None
    station, kind, number, *rest = frame[:-1]
    if kind == VALUES:
        return ("values", station, number, tuple(rest))
    if kind == DONE:
        return ("done", station, number, *rest)
    if kind == UNREAD:
        return ("unread", station, number, *rest)
    if kind == UNWRITTEN:
        return ("unwritten", station, number, *rest)
    return None


def frame_answer(frame):
    """The answer that a frame is of, or None."""
    if not is_frame(frame):
        raise NoFrame("not a frame")
    answer = answer_within(frame)
    return answer if is_answer(answer) else None
