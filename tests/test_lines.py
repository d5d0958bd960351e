"""4.1 and 0.2 (a): lines."""

import random
import unittest

from lineasks.asks import answer_frame, ask_frame
from lineasks.errors import NoFrame, NoNumber
from lineasks.frames import is_frame
from lineasks.lines import Line
from lineasks.stations import Station
from things import ODD, checked, is_exactly, with_one

WORDS = ("well", "lost", "spoilt", "late")


def read(station, number=0, at=0, many=1):
    return ask_frame(("read", station, number, at, many))


def write(station, number, at, *values):
    return ask_frame(("write", station, number, at, values))


def values(station, number, *held):
    return answer_frame(("values", station, number, held))


def done(station, number):
    return answer_frame(("done", station, number))


def first_greater(frame):
    """The frame as it comes when it is spoilt."""
    return with_one(frame, 0, 0 if frame[0] == 255 else frame[0] + 1)


class Telling(Station):
    """A station that tells a frame of the test's own, and knows what came."""

    def __init__(self, number, told):
        Station.__init__(self, number, (0,), ())
        self.told, self.came = told, []

    def take(self, thing):
        self.came.append(thing)
        return self.told


class LineCase(unittest.TestCase):

    def setUp(self):
        self.five = Station(5, (10, 20, 30), (2,))
        self.six = Station(6, (40, 50), ())

    def line(self, *marks):
        return Line([self.five, self.six], list(marks))

    def told(self, line, frame, *wanted):
        """What comes back is just this list of things."""
        back = line.send(frame)
        self.assertTrue(is_exactly(back, list(wanted)), f"{back} is not {wanted}")


class Making(LineCase):

    def test_each_word_in_lists_and_tuples(self):
        for marks in ([], (), list(WORDS), WORDS, ["late"] * 50, ("lost",) * 50, *[[one] for one in WORDS]):
            for stations in ([], (), [self.five], (self.five, self.six)):
                with self.subTest(marks=marks):
                    self.assertEqual(Line(stations, marks).used(), 0)

    def test_what_are_no_marks(self):
        for thing in ODD:
            if thing not in ([], ()):
                with self.subTest(repr(thing)):
                    self.assertRaises(NoNumber, Line, [self.five], thing)
        for wrong in ("Well", "WELL", " well", "well ", "", "w", "wel", "spoiled", "spoil", "lat", "latest",
                      None, True, False, 0, 1, ["well"], ("well",), [["well"]], [], (), "well lost"):
            for marks in ([wrong], (wrong,), ["well", wrong], (wrong, "late"), ["lost", wrong, "spoilt"]):
                with self.subTest(repr(marks)):
                    self.assertRaises(NoNumber, Line, [self.five], marks)
        for thing in WORDS + ("", "wellwell", "well lost", [list(WORDS)], (WORDS,)):
            with self.subTest(repr(thing)):
                self.assertRaises(NoNumber, Line, [self.five], thing)

    def test_no_marks_whatever_the_stations_are(self):
        for stations in ([], (), [self.five], [self.five, self.six]):
            self.assertRaises(NoNumber, Line, stations, ["no"])

    def test_lists_handed_in_are_as_they_were(self):
        stations, marks = [self.five, self.six], ["late", "well", "spoilt"]
        line = Line(stations, marks)
        for again in range(5):
            line.send(read(5))
        self.assertEqual(marks, ["late", "well", "spoilt"])
        self.assertEqual(len(stations), 2)
        self.assertIs(stations[0], self.five)
        self.assertIs(stations[1], self.six)
        wrong = ["well", ["lost"], 1]
        self.assertRaises(NoNumber, Line, stations, wrong)
        self.assertEqual(wrong, ["well", ["lost"], 1])

    def test_lists_handed_in_are_not_kept(self):
        stations, marks = [self.five], ["well", "well", "well", "lost"]
        line = Line(stations, marks)
        marks[1] = "lost"
        marks.extend(["lost"] * 5)
        del marks[3]
        stations.append(self.six)
        self.told(line, read(5), values(5, 0, 10))
        self.told(line, read(5))
        self.assertEqual(line.used(), 4)
        self.told(line, read(5), values(5, 0, 10))
        self.assertEqual(line.used(), 4)
        self.told(line, read(6))
        stations.clear()
        self.told(line, read(5), values(5, 0, 10))

    def test_stations_are_kept(self):
        line = self.line()
        self.five.change(0, 99)
        self.told(line, read(5), values(5, 0, 99))
        self.told(line, write(5, 0, 0, 7), done(5, 0))
        self.assertEqual(self.five.places(), (7, 20, 30))


class AllWell(LineCase):

    def test_answers_come(self):
        for marks in ((), ("well",), ("well",) * 2, ("well",) * 5, ("well",) * 50):
            line = Line((self.five, self.six), marks)
            with self.subTest(marks):
                self.told(line, read(5, 3, 0, 3), values(5, 3, 10, 20, 30))
                self.told(line, read(6, 4, 1), values(6, 4, 50))
                self.told(line, read(5, 0, 2, 2), answer_frame(("unread", 5, 0, 1)))
                self.told(line, write(5, 1, 2, 9), answer_frame(("unwritten", 5, 1, 2)))
                self.assertEqual(line.used(), min(len(marks), 8))

    def test_nothing_comes_of_what_no_station_answers(self):
        line = self.line()
        for frame in (read(7), write(7, 0, 0, 1), (0, 0), (1, 255), values(5, 0, 1), done(5, 0),
                      checked(5, 1, 0, 0, 9), checked(5, 3, 0, 0, 1), checked(0, 1, 0, 0, 1)):
            with self.subTest(frame):
                self.told(line, frame)

    def test_a_line_without_stations(self):
        line = Line([], ["well", "late", "lost"])
        for used in (1, 2, 3, 3, 3):
            self.told(line, read(5))
            self.assertEqual(line.used(), used)

    def test_a_write_to_all(self):
        line = self.line("well", "well", "lost")
        self.told(line, write(0, 0, 0, 7))
        self.assertEqual((self.five.places(), self.six.places()), ((7, 20, 30), (7, 50)))
        self.assertEqual(line.used(), 1)
        self.told(line, write(0, 0, 1, 8, 9))
        self.assertEqual((self.five.places(), self.six.places()), ((7, 20, 30), (7, 50)))
        self.told(line, write(0, 0, 0, 3))
        self.assertEqual((self.five.places(), self.six.places()), ((7, 20, 30), (7, 50)))
        self.assertEqual(line.used(), 3)
        self.told(line, write(0, 0, 0, 3))
        self.assertEqual((self.five.places(), self.six.places()), ((3, 20, 30), (3, 50)))

    def test_each_station_gets_each_frame(self):
        three = [Telling(number, None) for number in (1, 2, 3)]
        line = Line(three, ["well", "late", "lost", "spoilt"])
        for frame in (read(1), read(2), read(3), read(4), (0, 0)):
            self.told(line, frame)
        for one in three:
            self.assertEqual(one.came, [read(1), read(2), (0, 0)])

    def test_more_answers_than_one_come_in_the_order_of_the_stations(self):
        told = [(number, 256 - number) for number in (3, 1, 2)]
        line = Line([Telling(frame[0], frame) for frame in told], ["well", "well", "late", "spoilt", "well"])
        self.told(line, (0, 0), told[0], first_greater(told[2]))
        self.assertEqual(line.used(), 4)
        self.told(line, (0, 0), told[1], *told)
        self.assertEqual(line.used(), 5)


class MarksOnFrames(LineCase):

    def test_lost_and_spoilt_frames_are_taken_by_none(self):
        for mark in ("lost", "spoilt"):
            with self.subTest(mark):
                line = self.line(mark, mark, mark)
                self.told(line, read(5))
                self.assertEqual(line.used(), 1)
                self.told(line, write(5, 0, 0, 99))
                self.told(line, write(0, 0, 0, 99))
                self.assertEqual(line.used(), 3)
                self.assertEqual(self.five.places(), (10, 20, 30))
                self.assertEqual(self.six.places(), (40, 50))
                self.told(line, read(5), values(5, 0, 10))

    def test_a_lost_write_is_no_last_write(self):
        for mark in ("lost", "spoilt"):
            self.five.take(write(5, 0, 0, 1))
            line = self.line(mark)
            self.told(line, write(5, 1, 0, 2))
            self.five.change(0, 77)
            self.told(line, write(5, 0, 0, 1), done(5, 0))
            self.assertEqual(self.five.places()[0], 77)

    def test_spoilt_frames_reach_no_other_station(self):
        line = self.line("spoilt")
        self.told(line, write(5, 0, 0, 99))
        self.assertEqual(self.six.places(), (40, 50))
        self.assertEqual(self.five.places(), (10, 20, 30))

    def test_a_late_frame_is_taken_and_its_answer_is_lost(self):
        line = self.line("late", "well", "spoilt")
        self.told(line, write(5, 0, 0, 99))
        self.assertEqual(self.five.places(), (99, 20, 30))
        self.assertEqual(line.used(), 1)
        self.told(line, read(6), first_greater(values(6, 0, 40)))
        self.assertEqual(line.used(), 3)
        self.told(line, read(6), values(6, 0, 40))

    def test_a_late_write_is_the_last_write(self):
        line = self.line("late")
        self.told(line, write(5, 0, 0, 99))
        self.five.change(0, 1)
        self.told(line, write(5, 0, 0, 99), done(5, 0))
        self.assertEqual(self.five.places(), (1, 20, 30))

    def test_a_late_write_to_all(self):
        line = self.line("late")
        self.told(line, write(0, 0, 0, 99))
        self.assertEqual((self.five.places(), self.six.places()), ((99, 20, 30), (99, 50)))


class MarksOnAnswers(LineCase):

    def test_lost(self):
        line = self.line("well", "lost")
        self.told(line, write(5, 0, 0, 99))
        self.assertEqual(line.used(), 2)
        self.assertEqual(self.five.places(), (99, 20, 30))
        self.told(line, read(6), values(6, 0, 40))

    def test_spoilt(self):
        line = self.line("well", "spoilt")
        self.told(line, read(5, 1, 0, 2), (6,) + values(5, 1, 10, 20)[1:])
        self.assertEqual(line.used(), 2)
        self.told(line, read(5, 1, 0, 2), values(5, 1, 10, 20))

    def test_a_spoilt_frame_is_none(self):
        for number in range(1, 100):
            line = Line([Station(number, (1, 2), ())], ["well", "spoilt"])
            (back,) = line.send(read(number, 0, 0, 2))
            self.assertEqual(back[0], number + 1)
            self.assertIs(is_frame(back), False)

    def test_the_first_byte_255_spoilt_is_0(self):
        # No station of its own tells such a frame.
        for first, then in ((0, 1), (1, 2), (127, 128), (254, 255), (255, 0)):
            told = checked(first, 3, 9)
            line = Line([Telling(1, told)], ["well", "spoilt", "well", "well"])
            self.told(line, (0, 0), (then,) + told[1:])
            self.told(line, (0, 0), told)

    def test_late(self):
        line = self.line("well", "late")
        self.told(line, read(5, 1))
        self.assertEqual(line.used(), 2)
        self.five.change(0, 11)
        self.told(line, read(5, 2), values(5, 1, 10), values(5, 2, 11))
        self.told(line, read(5, 3), values(5, 3, 11))

    def test_late_again_and_again(self):
        line = self.line(*["well", "late"] * 3)
        self.told(line, read(5, 0))
        self.told(line, read(6, 1), values(5, 0, 10))
        self.told(line, read(5, 2), values(6, 1, 40))
        self.told(line, read(6, 3), values(5, 2, 10), values(6, 3, 40))
        self.told(line, read(6, 4), values(6, 4, 40))

    def test_a_late_answer_comes_whatever_becomes_of_the_next_frame(self):
        for mark in ("lost", "spoilt", "late"):
            with self.subTest(mark):
                line = self.line("well", "late", mark)
                self.told(line, read(5))
                self.told(line, read(6), values(5, 0, 10))
                self.told(line, read(6), values(6, 0, 40))

    def test_a_late_answer_comes_whatever_becomes_of_the_next_answer(self):
        ahead, behind = values(5, 0, 10), values(6, 0, 40)
        for mark, now, then in (("well", [behind], []), ("lost", [], []), ("spoilt", [first_greater(behind)], []),
                                ("late", [], [behind])):
            with self.subTest(mark):
                line = self.line("well", "late", "well", mark)
                self.told(line, read(5))
                self.told(line, read(6), ahead, *now)
                self.told(line, (0, 0), *then)

    def test_a_late_answer_comes_with_what_none_answers(self):
        for frame in (read(7), write(7, 0, 0, 1), write(0, 0, 0, 1), (0, 0), done(5, 0)):
            with self.subTest(frame):
                line = self.line("well", "late")
                self.told(line, read(5, 0, 1))
                self.told(line, frame, values(5, 0, 20))
                self.told(line, frame)

    def test_a_late_answer_is_as_it_was_when_told(self):
        line = self.line("well", "late")
        self.told(line, read(5))
        self.five.change(0, 1)
        self.told(line, (0, 0), values(5, 0, 10))


class Used(LineCase):

    def test_one_of_a_frame_that_none_answers_and_two_of_others(self):
        line = self.line(*["well"] * 12)
        for frame, used in ((read(7), 1), (read(5), 3), (write(0, 0, 0, 1), 4), (write(6, 0, 0, 1), 6),
                            ((0, 0), 7), (read(6, 0, 9), 9), (done(5, 0), 10)):
            line.send(frame)
            self.assertTrue(is_exactly(line.used(), used))

    def test_each_mark_on_each_frame(self):
        for mark, used in (("well", 2), ("lost", 1), ("spoilt", 1), ("late", 1)):
            line = self.line(mark, "well", "well")
            line.send(read(5))
            self.assertEqual(line.used(), used)
            for other in WORDS:
                line = self.line("well", other, "well")
                line.send(read(5))
                self.assertEqual(line.used(), 2)

    def test_a_late_answer_that_comes_has_no_mark_again(self):
        line = self.line("well", "late", "well", "well", "well")
        line.send(read(5))
        line.send(read(7))
        self.assertEqual(line.used(), 3)

    def test_never_more_than_the_marks(self):
        for many in range(6):
            for word in WORDS:
                line = self.line(*[word] * many)
                for again in range(10):
                    self.assertLessEqual(line.used(), many)
                    line.send(read(5))
                self.assertEqual(line.used(), many)

    def test_marks_that_end_between_a_frame_and_its_answer(self):
        line = self.line("well", "lost", "well")
        self.told(line, read(5))
        self.told(line, read(5), values(5, 0, 10))
        self.assertEqual(line.used(), 3)

    def test_the_same_again(self):
        line = self.line("well")
        line.send(read(5))
        self.assertEqual((line.used(), line.used()), (1, 1))


class NoFrames(LineCase):

    def test_any_thing_changes_nothing(self):
        line = self.line("well", "late", "well", "lost")
        self.told(line, read(5))
        for thing in ODD + (list(read(5)), with_one(read(5), 0, 6), write(0, 0, 0, 9)[:-1], ("read", 5, 0, 0, 1)):
            with self.subTest(repr(thing)):
                with self.assertRaises(NoFrame) as caught:
                    line.send(thing)
                self.assertIs(type(caught.exception), NoFrame)
                self.assertEqual(line.used(), 2)
        self.assertEqual((self.five.places(), self.six.places()), ((10, 20, 30), (40, 50)))
        self.told(line, read(6), values(5, 0, 10))
        self.assertEqual(line.used(), 4)

    def test_it_comes_to_no_station(self):
        one = Telling(1, None)
        line = Line([one], [])
        for thing in (None, [0, 0], (1, 2), "0"):
            self.assertRaises(NoFrame, line.send, thing)
        self.assertEqual(one.came, [])

    def test_frames_of_a_line_where_all_is_lost(self):
        line = self.line("lost", "lost")
        self.assertRaises(NoFrame, line.send, (1, 2))
        self.assertEqual(line.used(), 0)


class ToldLists(LineCase):

    def test_they_may_be_changed(self):
        line = self.line("well", "late")
        for frame in (read(5, 0), read(5, 1), read(5, 2), read(7), read(5, 3)):
            back = line.send(frame)
            back.append(None)
            back.insert(0, "no")
        self.told(line, read(7))
        self.told(line, read(5, 4), values(5, 4, 10))

    def test_they_do_not_change_behind(self):
        line = self.line("well", "late", "well", "late")
        lists = [line.send(read(5, number)) for number in range(4)]
        self.assertEqual(lists, [[], [values(5, 0, 10)], [values(5, 1, 10), values(5, 2, 10)], [values(5, 3, 10)]])
        self.assertEqual(len({id(one) for one in lists}), 4)

    def test_two_lines_share_nothing(self):
        marks = ["well", "late"]
        one, other = Line([self.five], marks), Line([self.six], marks)
        self.told(one, read(5))
        self.assertEqual((one.used(), other.used()), (2, 0))
        self.told(other, read(6))
        self.told(one, read(7), values(5, 0, 10))
        self.told(other, read(7), values(6, 0, 40))


class Model:
    """A line by the document's words: each told thing goes to the send it comes in."""

    def __init__(self, stations, marks):
        self.stations, self.left, self.sends, self.comes = stations, list(marks), 0, {}

    def mark(self):
        return self.left.pop(0) if self.left else "well"

    def send(self, frame):
        now = self.sends
        self.sends += 1
        way = self.mark()
        told = [] if way in ("lost", "spoilt") else [one.take(frame) for one in self.stations]
        for answer in [] if way == "late" else told:
            if answer is not None:
                back = self.mark()
                if back == "spoilt":
                    answer = first_greater(answer)
                if back != "lost":
                    self.comes.setdefault(now + (back == "late"), []).append(answer)
        return self.comes.pop(now, [])


class LongRuns(unittest.TestCase):

    def test_like_the_model(self):
        chance = random.Random(41)
        for run in range(80):
            numbers = chance.sample(range(1, 100), chance.randint(1, 4))
            marks = [chance.choice(WORDS + ("well",) * 3) for k in range(chance.randint(0, 60))]
            pairs = [[Station(number, (1, 2, 3), (1,)) for number in numbers] for k in range(2)]
            line, model = Line(pairs[0], marks), Model(pairs[1], marks)
            for step in range(50):
                station, number = chance.choice(numbers + [0, 100 - numbers[0]]), chance.randrange(3)
                if station == 0 or chance.random() < 0.5:
                    frame = write(station, number, chance.randrange(3), chance.randrange(256))
                else:
                    frame = read(station, number, chance.randrange(3), chance.randint(1, 3))
                self.assertEqual(line.send(frame), model.send(frame))
                self.assertEqual(line.used(), len(marks) - len(model.left))
                self.assertEqual([one.places() for one in pairs[0]], [one.places() for one in pairs[1]])


if __name__ == "__main__":
    unittest.main()
