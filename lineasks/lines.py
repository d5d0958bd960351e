"""Lines, on which frames go lost, are spoilt, or come late."""

from lineasks.errors import NoFrame, NoNumber
from lineasks.frames import is_frame

MARKS = ("well", "lost", "spoilt", "late")


def are_marks(thing):
    """Whether any thing is a list or a tuple of marks."""
    return isinstance(thing, (list, tuple)) and all([one in MARKS for one in thing])


def spoilt(frame):
    """A frame as it comes when it is spoilt."""
    return ((frame[0] + 1) % 256,) + frame[1:]


class Line:
    """A line with stations on it, and marks that tell how frames go."""

    def __init__(self, stations, marks):
        if not are_marks(marks):
            raise NoNumber("not a list or a tuple of marks")
        self.stations = tuple(stations)
        self.marks = tuple(marks)
        self.marks_gone = 0
        self.late_answers = []

    def send(self, thing):
        """A frame goes over the line; a list of all that comes back."""
        if not is_frame(thing):
            raise NoFrame("not a frame")
        come = self.late_answers
        self.late_answers = []
        mark = self.next_mark()
        if mark == "lost" or mark == "spoilt":
            return come
        for station in self.stations:
            told = station.take(thing)
            # Answers to a late frame are lost without a mark of their own.
            if told is not None and mark == "well":
                self.go_back(told, come)
        return come

    def used(self):
        """How many marks are used by now."""
        return self.marks_gone

    def next_mark(self):
        """The mark of the frame that goes now."""
        if self.marks_gone == len(self.marks):
            return "well"
        self.marks_gone += 1
        return self.marks[self.marks_gone - 1]

    def go_back(self, answer, come):
        """An answer goes over the line, to what comes now, or later, or never."""
        mark = self.next_mark()
        if mark == "well":
            come.append(answer)
        elif mark == "spoilt":
            come.append(spoilt(answer))
        elif mark == "late":
            self.late_answers.append(answer)
