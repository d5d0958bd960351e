"""Askers, which try again, and take no answer for another one."""

from lineasks.asks import ask_frame, frame_answer, is_ask
from lineasks.errors import Fixed, NoAnswer, NoAsk, NoNumber, NoPlace
from lineasks.frames import is_frame
from lineasks.wholes import is_whole

# The words of the answers that an ask of each word can have.
ANSWER_WORDS = {"read": ("values", "unread"), "write": ("done", "unwritten")}


def is_answer_to(answer, ask):
    """Whether an answer is one to this ask."""
    # Both tell the station and the number behind the word.
    return answer[0] in ANSWER_WORDS[ask[0]] and answer[1:3] == ask[1:3]


def first_answer(things, ask):
    """The first answer to an ask among the things that came, or None."""
    for thing in things:
        answer = frame_answer(thing) if is_frame(thing) else None
        if answer is not None and is_answer_to(answer, ask):
            return answer
    return None


def refuse_if_not_done(answer):
    """Refuses with the why of an answer that tells one."""
    if answer[0] not in ("unread", "unwritten"):
        return
    if answer[3] == 1:
        raise NoPlace("the station has not all these places")
    raise Fixed("one of these places is fixed")


class Asker:
    """The one asker of a line."""

    def __init__(self, line, tries):
        if not is_whole(tries, 1, 9):
            raise NoNumber("not a number of tries")
        self.line = line
        self.tries = tries
        self.asked = {}

    def read(self, station, at, many):
        """The bytes of so many places of a station, from at on."""
        answer = self.answer_of("read", station, at, many)
        return answer[3]

    def write(self, station, at, values):
        """The places of a station from at on get the values."""
        self.answer_of("write", station, at, values)

    def write_all(self, at, values):
        """The places of all stations from at on get the values, where that can be."""
        # No station answers this, so there is nothing to wait or try again for.
        self.line.send(ask_frame(("write", 0, 0, at, values)))

    def answer_of(self, word, station, at, wanted):
        """The answer to a new ask of one station, if that could be done."""
        # The number of the ask is known only once the station is known to be one.
        if not is_ask((word, station, 0, at, wanted)) or station == 0:
            raise NoAsk("not an ask of one station")
        ask = (word, station, self.next_number(word, station), at, wanted)
        answer = self.try_ask(ask)
        if answer is None:
            raise NoAnswer("no answer came")
        refuse_if_not_done(answer)
        return answer

    def next_number(self, word, station):
        """The number of a new ask, which counts from now on."""
        ahead = self.asked.get((word, station), 0)
        self.asked[(word, station)] = ahead + 1
        return ahead % 16

    def try_ask(self, ask):
        """The first answer to an ask that is sent until one comes, or None."""
        frame = ask_frame(ask)
        for again in range(self.tries):
            answer = first_answer(self.line.send(frame), ask)
            if answer is not None:
                return answer
        return None
