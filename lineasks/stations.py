"""Stations: places with bytes in them, which are read and written by asks."""

from lineasks.asks import answer_frame, frame_ask, is_station_number
from lineasks.errors import NoNumber, NoStation
from lineasks.frames import is_frame
from lineasks.wholes import is_byte, is_byte_tuple, is_whole


def are_rising_places(thing, many):
    """Whether any thing is a rising tuple of places, of which there are many."""
    if not isinstance(thing, tuple):
        return False
    ahead = -1
    for place in thing:
        if not is_whole(place, ahead + 1, many - 1):
            return False
        ahead = place
    return True


class Station:
    """A station, which does once what comes twice."""

    def __init__(self, number, held, fixed):
        if not is_station_number(number):
            raise NoStation("not a number of a station")
        if not is_byte_tuple(held, 1, 16):
            raise NoStation("not a tuple of 1 to 16 bytes")
        if not are_rising_places(fixed, len(held)):
            raise NoStation("not a rising tuple of places")
        self.own_number = number
        self.held = list(held)
        self.fixed = fixed
        self.last_write = None
        self.last_told = None

    def number(self):
        """The number of the station."""
        return self.own_number

    def places(self):
        """The bytes that stand in the places."""
        return tuple(self.held)

    def change(self, at, value):
        """A place gets a byte by itself, fixed or not."""
        if not is_whole(at, 0, len(self.held) - 1):
            raise NoNumber("not a place of this station")
        if not is_byte(value):
            raise NoNumber("not a byte")
        self.held[at] = value

    def take(self, thing):
        """What the station tells when any thing comes to it: a frame, or None."""
        ask = frame_ask(thing) if is_frame(thing) else None
        if ask is None:
            return None
        word, station, number, at, wanted = ask
        if station == 0:
            self.try_write(at, wanted)
            return None
        if station != self.own_number:
            return None
        if word == "read":
            return self.read_told(number, at, wanted)
        # The asker sends a write again when the answer went lost, so the same
        # frame is no new write, even if the places have changed since.
        if thing != self.last_write:
            self.last_told = self.write_told(number, at, wanted)
            self.last_write = thing
        return self.last_told

    def read_told(self, number, at, many):
        """The frame that is told of a read."""
        if at + many > len(self.held):
            return answer_frame(("unread", self.own_number, number, 1))
        values = tuple(self.held[at:at + many])
        return answer_frame(("values", self.own_number, number, values))

    def write_told(self, number, at, values):
        """Writes, if that can be; the frame that is told of it."""
        why = self.try_write(at, values)
        if why is None:
            return answer_frame(("done", self.own_number, number))
        return answer_frame(("unwritten", self.own_number, number, why))

    def try_write(self, at, values):
        """Writes, if that can be, and tells None; else tells why not."""
        end = at + len(values)
        if end > len(self.held):
            return 1
        if any([at <= place < end for place in self.fixed]):
            return 2
        self.held[at:end] = list(values)
        return None
