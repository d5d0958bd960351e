"""4.2 and 0.2 (b), (c), (d): askers."""

import random
import unittest

from lineasks.askers import Asker
from lineasks.asks import answer_frame, ask_frame, frame_ask
from lineasks.errors import Fixed, LineError, NoAnswer, NoAsk, NoNumber, NoPlace
from lineasks.lines import Line
from lineasks.stations import Station
from things import NESTED, ODD, TRUTHS, checked, is_exactly, with_one

WORDS = ("well", "lost", "spoilt", "late")


class Watched(Line):
    """A line that knows what was sent over it."""

    def __init__(self, stations, marks=()):
        Line.__init__(self, stations, marks)
        self.sent = []

    def send(self, thing):
        self.sent.append(thing)
        return Line.send(self, thing)

    def asks(self):
        return [frame_ask(frame) for frame in self.sent]


class Scripted:
    """A line of which the test tells what comes back, send by send."""

    def __init__(self, *backs):
        self.backs, self.sent = list(backs), []

    def send(self, thing):
        self.sent.append(thing)
        return list(self.backs.pop(0))


def values(station, number, *held):
    return answer_frame(("values", station, number, held))


def done(station, number):
    return answer_frame(("done", station, number))


def unread(station, number, why=1):
    return answer_frame(("unread", station, number, why))


def unwritten(station, number, why):
    return answer_frame(("unwritten", station, number, why))


class AskerCase(unittest.TestCase):

    def setUp(self):
        self.five = Station(5, (10, 20, 30), (2,))
        self.six = Station(6, (40, 50), ())

    def ready(self, tries, *marks):
        """A new asker over a new line with both stations."""
        self.line = Watched([self.five, self.six], marks)
        return Asker(self.line, tries)

    def refuses(self, kind, action, *given):
        with self.assertRaises(kind) as caught:
            action(*given)
        self.assertIs(type(caught.exception), kind)


class Making(AskerCase):

    def test_tries(self):
        for tries in range(1, 10):
            asker = self.ready(tries)
            self.assertEqual(asker.read(5, 0, 1), (10,))

    def test_no_number(self):
        line = Watched([self.five])
        for tries in (0, 10, -1, 11, 10 ** 30, None, "", "1", [], [1], (), (1,), ["well"]) + TRUTHS + NESTED:
            with self.subTest(repr(tries)):
                self.refuses(NoNumber, Asker, line, tries)
        for tries in ODD:
            if not (type(tries) is int and 1 <= tries <= 9):
                with self.subTest(repr(tries)):
                    self.refuses(NoNumber, Asker, line, tries)
        self.assertEqual(line.sent, [])

    def test_nothing_is_sent_by_making(self):
        self.ready(3)
        self.assertEqual(self.line.sent, [])


class Asking(AskerCase):

    def test_read(self):
        asker = self.ready(3)
        self.assertTrue(is_exactly(asker.read(5, 0, 3), (10, 20, 30)))
        self.assertTrue(is_exactly(asker.read(5, 1, 1), (20,)))
        self.assertTrue(is_exactly(asker.read(6, 0, 2), (40, 50)))
        self.assertEqual(self.line.asks(), [("read", 5, 0, 0, 3), ("read", 5, 1, 1, 1), ("read", 6, 0, 0, 2)])

    def test_write(self):
        asker = self.ready(3)
        self.assertIsNone(asker.write(5, 0, (1, 2)))
        self.assertEqual(self.five.places(), (1, 2, 30))
        self.assertIsNone(asker.write(6, 1, (9,)))
        self.assertEqual(self.six.places(), (40, 9))
        self.assertEqual(self.line.asks(), [("write", 5, 0, 0, (1, 2)), ("write", 6, 0, 1, (9,))])

    def test_the_most_and_the_least(self):
        wide = Station(99, tuple(range(16)), ())
        narrow = Station(1, (255,), ())
        asker = Asker(Line((narrow, wide), ()), 1)
        self.assertEqual(asker.read(99, 8, 8), (8, 9, 10, 11, 12, 13, 14, 15))
        self.assertEqual(asker.read(99, 15, 1), (15,))
        self.assertEqual(asker.read(1, 0, 1), (255,))
        asker.write(99, 8, (0, 255) * 4)
        asker.write(1, 0, (0,))
        self.assertEqual(wide.places(), tuple(range(8)) + (0, 255) * 4)
        self.assertEqual(narrow.places(), (0,))

    def test_two_askers_of_two_lines_share_nothing(self):
        one, other = Watched([self.five]), Watched([self.six])
        first, second = Asker(one, 1), Asker(other, 1)
        for again in range(3):
            first.read(5, 0, 1)
        self.assertRaises(NoAnswer, second.read, 5, 0, 1)
        self.assertEqual(other.asks(), [("read", 5, 0, 0, 1)])


class Numbers(AskerCase):

    def test_from_15_on_to_0(self):
        asker = self.ready(1)
        for again in range(35):
            asker.read(5, 0, 1)
            asker.write(6, 0, (again,))
        self.assertEqual([ask[2] for ask in self.line.asks()[::2]], [k % 16 for k in range(35)])
        self.assertEqual([ask[2] for ask in self.line.asks()[1::2]], [k % 16 for k in range(35)])
        self.assertEqual(self.six.places(), (34, 50))

    def test_by_station_and_by_word(self):
        asker = self.ready(1)
        counts, wanted = {}, []
        chance = random.Random(42)
        for step in range(200):
            word, station = chance.choice(("read", "write")), chance.choice((5, 6, 7))
            number = counts.get((word, station), 0)
            counts[word, station] = number + 1
            wanted.append((word, station, number % 16))
            try:
                asker.read(station, 0, 1) if word == "read" else asker.write(station, 0, (step,))
            except NoAnswer:
                self.assertEqual(station, 7)
        self.assertEqual([ask[:3] for ask in self.line.asks()], wanted)

    def test_each_that_is_refused_counts(self):
        asker = self.ready(1)
        self.refuses(NoPlace, asker.read, 5, 2, 2)
        asker.read(5, 0, 1)
        self.refuses(NoPlace, asker.write, 5, 2, (1, 2))
        self.refuses(Fixed, asker.write, 5, 2, (1,))
        asker.write(5, 0, (1,))
        self.refuses(NoAnswer, asker.read, 7, 0, 1)
        self.refuses(NoAnswer, asker.read, 7, 0, 1)
        self.refuses(NoAnswer, asker.write, 7, 0, (1,))
        self.refuses(NoAnswer, asker.write, 7, 0, (1,))
        self.assertEqual([ask[:3] for ask in self.line.asks()], [
            ("read", 5, 0), ("read", 5, 1), ("write", 5, 0), ("write", 5, 1), ("write", 5, 2),
            ("read", 7, 0), ("read", 7, 1), ("write", 7, 0), ("write", 7, 1)])

    def test_an_ask_that_is_tried_again_counts_once(self):
        asker = self.ready(9, *["lost"] * 8)
        asker.read(5, 0, 1)
        asker.read(5, 0, 1)
        self.assertEqual([ask[2] for ask in self.line.asks()], [0] * 9 + [1])

    def test_what_is_no_ask_counts_as_none(self):
        asker = self.ready(1)
        asker.read(5, 0, 1)
        asker.write(5, 0, (1,))
        for again in range(3):
            self.refuses(NoAsk, asker.read, 5, 16, 1)
            self.refuses(NoAsk, asker.read, 0, 0, 1)
            self.refuses(NoAsk, asker.write, 5, 0, ())
            self.refuses(NoAsk, asker.write, 0, 0, (1,))
            self.refuses(NoAsk, asker.write_all, 0, ())
        asker.read(5, 0, 1)
        asker.write(5, 0, (1,))
        self.assertEqual([ask[:3] for ask in self.line.asks()],
                         [("read", 5, 0), ("write", 5, 0), ("read", 5, 1), ("write", 5, 1)])


class Tries(AskerCase):

    def test_as_often_as_told_and_no_more(self):
        for tries in range(1, 10):
            for mark in ("lost", "spoilt", "late"):
                with self.subTest(tries=tries, mark=mark):
                    asker = self.ready(tries, *[mark] * (tries - 1))
                    self.assertEqual(asker.read(5, 0, 1), (10,))
                    self.assertEqual(self.line.asks(), [("read", 5, 0, 0, 1)] * tries)
                    asker = self.ready(tries, *[mark] * tries)
                    self.refuses(NoAnswer, asker.read, 5, 0, 1)
                    self.assertEqual(self.line.asks(), [("read", 5, 0, 0, 1)] * tries)

    def test_once_where_the_answer_comes_at_once(self):
        for tries in range(1, 10):
            asker = self.ready(tries)
            asker.read(5, 0, 1)
            asker.write(6, 0, (1,))
            self.refuses(NoPlace, asker.read, 5, 3, 1)
            self.refuses(NoPlace, asker.write, 5, 3, (1,))
            self.refuses(Fixed, asker.write, 5, 2, (1,))
            self.assertEqual(len(self.line.sent), 5)

    def test_the_same_frame_is_sent_again(self):
        asker = self.ready(3, "lost", "well", "lost")
        asker.write(5, 1, (7,))
        self.assertTrue(is_exactly(self.line.sent, [checked(5, 2, 0, 1, 7)] * 3))

    def test_stations_that_are_not_on_the_line(self):
        for tries in (1, 3, 9):
            asker = self.ready(tries)
            self.refuses(NoAnswer, asker.read, 7, 0, 1)
            self.refuses(NoAnswer, asker.write, 99, 0, (1,))
            self.assertEqual(len(self.line.sent), 2 * tries)
        asker = Asker(Line([], []), 2)
        self.refuses(NoAnswer, asker.read, 5, 0, 1)

    def test_answers_that_go_lost_or_are_spoilt(self):
        for mark in ("lost", "spoilt"):
            asker = self.ready(2, "well", mark, "well", "well", "well", mark, "well", mark)
            self.assertEqual(asker.read(5, 0, 1), (10,))
            self.refuses(NoAnswer, asker.read, 5, 0, 1)
            self.assertEqual(self.line.used(), 8)

    def test_a_late_answer_of_the_same_ask_counts(self):
        asker = self.ready(2, "well", "late", "lost")
        self.assertEqual(asker.read(5, 0, 1), (10,))
        self.assertEqual(len(self.line.sent), 2)
        asker = self.ready(2, "well", "late", "lost")
        asker.write(6, 0, (1,))
        self.assertEqual(self.six.places(), (1, 50))


class FirstThatFits(AskerCase):

    def test_the_first_of_several(self):
        line = Scripted([values(5, 0, 1), values(5, 0, 2)], [values(5, 1, 3), unread(5, 1)],
                        [unread(5, 2), values(5, 2, 4)])
        asker = Asker(line, 1)
        self.assertEqual(asker.read(5, 0, 1), (1,))
        self.assertEqual(asker.read(5, 0, 1), (3,))
        self.refuses(NoPlace, asker.read, 5, 0, 1)

    def test_the_first_of_several_writes(self):
        line = Scripted([done(5, 0), unwritten(5, 0, 1)], [unwritten(5, 1, 1), done(5, 1)],
                        [unwritten(5, 2, 2), done(5, 2)])
        asker = Asker(line, 1)
        self.assertIsNone(asker.write(5, 0, (1,)))
        self.refuses(NoPlace, asker.write, 5, 0, (1,))
        self.refuses(Fixed, asker.write, 5, 0, (1,))

    def test_a_read_behind_things_that_do_not_fit(self):
        others = [None, "no", [], list(values(5, 0, 9)), with_one(values(5, 0, 9), 0, 6), (0, 0), (1, 255),
                  ask_frame(("read", 5, 0, 0, 1)), values(6, 0, 9), values(4, 0, 9), values(5, 1, 9),
                  values(5, 15, 9), done(5, 0), unwritten(5, 0, 1), unwritten(5, 0, 2), unread(5, 1), unread(6, 0)]
        for other in others:
            with self.subTest(repr(other)):
                line = Scripted([other], [other, values(5, 0, 7)])
                self.assertEqual(Asker(line, 2).read(5, 0, 1), (7,))
                self.refuses(NoAnswer, Asker(Scripted([other], [other]), 2).read, 5, 0, 1)
        self.assertEqual(Asker(Scripted(others + [values(5, 0, 7)]), 1).read(5, 0, 1), (7,))

    def test_a_write_behind_things_that_do_not_fit(self):
        others = [None, "no", [], list(done(5, 0)), with_one(done(5, 0), 0, 6), (0, 0), (1, 255),
                  ask_frame(("write", 5, 0, 0, (1,))), done(6, 0), done(4, 0), done(5, 1), done(5, 15),
                  values(5, 0, 9), unread(5, 0), unwritten(5, 1, 1), unwritten(6, 0, 2)]
        for other in others:
            with self.subTest(repr(other)):
                self.assertIsNone(Asker(Scripted([other], [other, done(5, 0)]), 2).write(5, 0, (1,)))
                self.refuses(NoAnswer, Asker(Scripted([other], [other]), 2).write, 5, 0, (1,))
                self.refuses(Fixed, Asker(Scripted([other], [unwritten(5, 0, 2)]), 2).write, 5, 0, (1,))

    def test_late_answers_of_an_earlier_ask(self):
        asker = self.ready(1, "well", "late", "lost")
        self.refuses(NoAnswer, asker.read, 5, 0, 1)
        self.refuses(NoAnswer, asker.read, 5, 0, 1)
        asker = self.ready(1, "well", "late")
        self.refuses(NoAnswer, asker.read, 5, 0, 1)
        self.five.change(0, 11)
        self.assertEqual(asker.read(5, 0, 1), (11,))

    def test_late_answers_of_an_earlier_write(self):
        asker = self.ready(1, "well", "late", "lost")
        self.refuses(NoAnswer, asker.write, 5, 0, (1,))
        self.refuses(NoAnswer, asker.write, 5, 0, (1,))
        self.assertEqual(self.five.places(), (1, 20, 30))
        asker = self.ready(1, "well", "late", "lost")
        self.refuses(NoAnswer, asker.write, 5, 3, (1,))
        self.refuses(NoAnswer, asker.write, 5, 0, (1,))

    def test_late_answers_of_the_other_word(self):
        asker = self.ready(1, "well", "late", "lost")
        self.refuses(NoAnswer, asker.read, 5, 0, 1)
        self.refuses(NoAnswer, asker.write, 5, 0, (1,))
        asker = self.ready(1, "well", "late", "lost")
        self.refuses(NoAnswer, asker.write, 5, 0, (1,))
        self.refuses(NoAnswer, asker.read, 5, 0, 1)
        asker = self.ready(1, "well", "late", "lost")
        self.refuses(NoAnswer, asker.read, 5, 15, 1)
        self.refuses(NoAnswer, asker.write, 5, 0, (1,))
        asker = self.ready(1, "well", "late", "lost")
        self.refuses(NoAnswer, asker.write, 5, 15, (1,))
        self.refuses(NoAnswer, asker.read, 5, 0, 1)

    def test_late_answers_of_another_station(self):
        asker = self.ready(1, "well", "late", "lost", "well", "late")
        self.refuses(NoAnswer, asker.read, 5, 0, 1)
        self.refuses(NoAnswer, asker.read, 6, 0, 1)
        self.refuses(NoAnswer, asker.write, 5, 0, (1,))
        self.assertIsNone(asker.write(6, 0, (1,)))

    def test_a_late_answer_of_sixteen_asks_ago_is_gone(self):
        asker = self.ready(1, "well", "late")
        self.refuses(NoAnswer, asker.read, 5, 0, 1)
        self.five.change(0, 11)
        for again in range(20):
            self.assertEqual(asker.read(5, 0, 1), (11,))


class Refused(AskerCase):

    def test_no_place(self):
        asker = self.ready(3)
        for at, many in ((0, 4), (1, 3), (2, 2), (3, 1), (15, 8), (0, 8)):
            self.refuses(NoPlace, asker.read, 5, at, many)
            self.refuses(NoPlace, asker.write, 5, at, (1,) * many)
        self.assertEqual(self.five.places(), (10, 20, 30))
        self.assertEqual(len(self.line.sent), 12)

    def test_fixed(self):
        asker = self.ready(3)
        for at, given in ((2, (1,)), (1, (1, 2)), (0, (1, 2, 3))):
            self.refuses(Fixed, asker.write, 5, at, given)
        self.assertEqual(asker.read(5, 2, 1), (30,))
        self.assertEqual(self.five.places(), (10, 20, 30))

    def test_no_place_comes_ahead_of_fixed(self):
        self.refuses(NoPlace, self.ready(1).write, 5, 2, (1, 2))

    def test_why_it_is_not_done_told_again(self):
        asker = self.ready(3, "well", "lost", "well", "late")
        self.refuses(Fixed, asker.write, 5, 2, (1,))
        asker = self.ready(3, "well", "spoilt", "late")
        self.refuses(NoPlace, asker.read, 5, 3, 1)

    def test_why_2_is_fixed_and_why_1_is_not(self):
        self.refuses(Fixed, Asker(Scripted([unread(5, 0, 2)]), 1).read, 5, 0, 1)
        self.refuses(NoPlace, Asker(Scripted([unread(5, 0, 1)]), 1).read, 5, 0, 1)

    def test_no_answer_though_it_was_written(self):
        asker = self.ready(2, "well", "lost", "late")
        self.refuses(NoAnswer, asker.write, 5, 0, (1,))
        self.assertEqual(self.five.places(), (1, 20, 30))

    def test_no_ask(self):
        asker = self.ready(2)
        for station in (0, -1, 100, None, "5", [5], (5,), [], ()) + TRUTHS + NESTED:
            with self.subTest(station=repr(station)):
                self.refuses(NoAsk, asker.read, station, 0, 1)
                self.refuses(NoAsk, asker.write, station, 0, (1,))
        for at in (-1, 16, None, "0", [0], (0,)) + TRUTHS + NESTED:
            with self.subTest(at=repr(at)):
                self.refuses(NoAsk, asker.read, 5, at, 1)
                self.refuses(NoAsk, asker.write, 5, at, (1,))
                self.refuses(NoAsk, asker.write_all, at, (1,))
        for many in (0, 9, -1, None, "1", [1], (1,)) + TRUTHS + NESTED:
            with self.subTest(many=repr(many)):
                self.refuses(NoAsk, asker.read, 5, 0, many)
        for given in ((), (1,) * 9, [1], [], (256,), (-1,), (True,), (1, False), ("1",), ((1,),),
                      None, 1, "1") + NESTED:
            with self.subTest(given=repr(given)):
                self.refuses(NoAsk, asker.write, 5, 0, given)
                self.refuses(NoAsk, asker.write_all, 0, given)
        self.assertEqual(self.line.sent, [])
        self.assertEqual(self.line.used(), 0)

    def test_no_ask_of_any_thing(self):
        asker = self.ready(2)
        for thing in ODD:
            whole = type(thing) is int
            with self.subTest(repr(thing)):
                if not (whole and 1 <= thing <= 99):
                    self.refuses(NoAsk, asker.read, thing, 0, 1)
                    self.refuses(NoAsk, asker.write, thing, 0, (1,))
                if not (whole and 0 <= thing <= 15):
                    self.refuses(NoAsk, asker.read, 5, thing, 1)
                    self.refuses(NoAsk, asker.write, 5, thing, (1,))
                    self.refuses(NoAsk, asker.write_all, thing, (1,))
                if not (whole and 1 <= thing <= 8):
                    self.refuses(NoAsk, asker.read, 5, 0, thing)
                self.refuses(NoAsk, asker.read, thing, thing, 0)
                self.refuses(NoAsk, asker.write, thing, thing, [1])
        self.assertEqual(self.line.sent, [])

    def test_no_ask_comes_ahead_of_all_others(self):
        asker = self.ready(1, "lost", "lost")
        self.refuses(NoAsk, asker.read, 7, 16, 1)
        self.refuses(NoAsk, asker.read, 5, 3, 9)
        self.refuses(NoAsk, asker.write, 5, 2, (256,))
        self.refuses(NoAsk, asker.write, 0, 15, (1,))
        self.assertEqual(self.line.used(), 0)

    def test_late_answers_stay_late_where_it_is_no_ask(self):
        asker = self.ready(1, "well", "late")
        self.refuses(NoAnswer, asker.read, 5, 0, 1)
        self.refuses(NoAsk, asker.read, 0, 0, 1)
        self.refuses(NoAsk, asker.write_all, 16, (1,))
        self.assertEqual(self.line.send((0, 0)), [values(5, 0, 10)])

    def test_what_is_handed_in_is_as_it_was(self):
        asker = self.ready(1)
        for given in ([1, 2], [[1], (2, [3])]):
            copy = repr(given)
            self.refuses(NoAsk, asker.write, 5, 0, given)
            self.refuses(NoAsk, asker.write_all, 0, given)
            self.refuses(NoAsk, asker.read, given, given, given)
            self.assertEqual(repr(given), copy)


class WriteAll(AskerCase):

    def test_all_stations_that_can(self):
        asker = self.ready(3)
        self.assertIsNone(asker.write_all(0, (1, 2)))
        self.assertEqual((self.five.places(), self.six.places()), ((1, 2, 30), (1, 2)))
        self.assertIsNone(asker.write_all(1, (8, 9)))
        self.assertEqual((self.five.places(), self.six.places()), ((1, 2, 30), (1, 2)))
        self.assertIsNone(asker.write_all(15, (8,) * 8))
        self.assertEqual((self.five.places(), self.six.places()), ((1, 2, 30), (1, 2)))

    def test_it_is_sent_once_with_number_0(self):
        asker = self.ready(9, "lost")
        for again in range(20):
            self.assertIsNone(asker.write_all(0, (3,)))
            self.assertEqual(self.five.places()[0], 3 if again else 10)
        self.assertEqual(self.line.asks(), [("write", 0, 0, 0, (3,))] * 20)

    def test_on_a_line_where_it_goes_lost(self):
        for mark in ("lost", "spoilt"):
            self.assertIsNone(self.ready(5, mark).write_all(0, (3,)))
            self.assertEqual(len(self.line.sent), 1)
            self.assertEqual(self.five.places(), (10, 20, 30))

    def test_without_stations(self):
        self.assertIsNone(Asker(Line([], []), 1).write_all(0, (3,)))

    def test_it_counts_as_no_ask_of_a_station(self):
        asker = self.ready(1)
        for again in range(3):
            asker.write_all(0, (3,))
            asker.write(5, 0, (4,))
            asker.read(5, 0, 1)
        self.assertEqual([ask[:3] for ask in self.line.asks()], [
            ("write", 0, 0), ("write", 5, 0), ("read", 5, 0), ("write", 0, 0), ("write", 5, 1), ("read", 5, 1),
            ("write", 0, 0), ("write", 5, 2), ("read", 5, 2)])

    def test_late_answers_that_come_then_are_gone(self):
        asker = self.ready(2, "well", "lost", "well", "late", "well", "lost", "lost")
        self.refuses(NoAnswer, asker.read, 5, 0, 1)
        asker.write_all(0, (3,))
        self.refuses(NoAnswer, asker.read, 5, 0, 1)

    def test_no_ask(self):
        asker = self.ready(1)
        for at, given in ((16, (1,)), (-1, (1,)), (0, ()), (0, (1,) * 9), (0, [1]), (0, (256,)), (0, (True,)),
                          (True, (1,)), (None, None)):
            self.refuses(NoAsk, asker.write_all, at, given)
        self.assertEqual(self.line.sent, [])


class Restless(Station):
    """A station whose places change by themselves, and that knows how they stood."""

    def __init__(self, number, chance):
        Station.__init__(self, number, (0,) * 4, ())
        self.chance, self.stood = chance, []

    def take(self, thing):
        for at in range(4):
            self.change(at, self.chance.randrange(256))
        self.stood.append(self.places())
        return Station.take(self, thing)


class Counting(Station):
    """A station that knows how often it wrote, and forgets what was written."""

    def __init__(self, number):
        Station.__init__(self, number, (0,) * 4, (3,))
        self.wrote = []

    def take(self, thing):
        told = Station.take(self, thing)
        if self.places() != (0,) * 4:
            self.wrote.append(self.places()[0])
            for at in range(4):
                self.change(at, 0)
        return told


class ForAllLines(unittest.TestCase):

    def test_what_is_read_stood_there_together_behind_the_ask(self):
        chance = random.Random(2)
        answered = 0
        for run in range(60):
            stations = [Restless(number, chance) for number in (3, 4)]
            marks = [chance.choice(WORDS) for k in range(300)]
            asker = Asker(Line(stations, marks), chance.randint(1, 4))
            for step in range(40):
                one = chance.choice(stations)
                del one.stood[:]
                at = chance.randrange(4)
                many = chance.randint(1, 4 - at)
                try:
                    told = asker.read(one.number(), at, many)
                except NoAnswer:
                    continue
                answered += 1
                self.assertIn(told, [places[at:at + many] for places in one.stood])
        self.assertGreater(answered, 500)

    def test_what_is_told_as_written_was_written_once(self):
        chance = random.Random(3)
        tally = {"done": 0, "lost": 0, "not lost": 0}
        for run in range(60):
            stations = [Counting(number) for number in (3, 4)]
            marks = [chance.choice(WORDS) for k in range(600)]
            asker = Asker(Line(stations, marks), chance.randint(1, 9))
            for step in range(40):
                one = chance.choice(stations)
                del one.wrote[:]
                # The same bytes each time, so that only the number tells writes apart.
                try:
                    self.assertIsNone(asker.write(one.number(), 0, (7,)))
                    self.assertEqual(one.wrote, [7])
                    tally["done"] += 1
                except NoAnswer:
                    self.assertIn(one.wrote, ([], [7]))
                    tally["not lost" if one.wrote else "lost"] += 1
        self.assertGreater(min(tally.values()), 50)

    def test_fourteen_lost_writes_between_two_like_ones(self):
        for lost in range(15):
            one = Counting(3)
            asker = Asker(Line([one], ["well", "well"] + ["lost"] * lost), 1)
            asker.write(3, 0, (7,))
            for again in range(lost):
                self.assertRaises(NoAnswer, asker.write, 3, 0, (7,))
            asker.write(3, 0, (7,))
            self.assertEqual(one.wrote, [7, 7])

    def test_no_answer_is_taken_for_another_ask(self):
        chance = random.Random(4)
        kinds = {}
        for run in range(60):
            held = tuple(range(16))
            stations = [Station(number, held, (0,)) for number in (3, 4)]
            marks = [chance.choice(WORDS + ("late",) * 2 + ("well",) * 2) for k in range(300)]
            asker = Asker(Line(stations, marks), chance.randint(1, 3))
            for step in range(40):
                number, at = chance.choice((3, 4)), chance.randrange(16)
                many = chance.randint(1, 8)
                word = chance.choice(("read", "write"))
                given = tuple(range(at, at + many))
                try:
                    # What is written stands there already, so that each place tells its own number.
                    told = asker.read(number, at, many) if word == "read" else asker.write(number, at, given)
                    wanted = given if word == "read" else None
                    self.assertEqual(told, wanted)
                    self.assertLessEqual(at + many, 16)
                    self.assertFalse(word == "write" and at == 0)
                    kind = word
                except NoAnswer:
                    kind = "no answer"
                except NoPlace:
                    self.assertGreater(at + many, 16)
                    kind = "no place"
                except Fixed:
                    self.assertEqual((word, at), ("write", 0))
                    self.assertLessEqual(at + many, 16)
                    kind = "fixed"
                kinds[kind] = kinds.get(kind, 0) + 1
        self.assertEqual(len(kinds), 5)
        self.assertGreater(min(kinds.values()), 10)

    def test_all_refusals_are_line_errors(self):
        for kind in (NoAsk, NoNumber, NoPlace, Fixed, NoAnswer):
            self.assertTrue(issubclass(kind, LineError))


if __name__ == "__main__":
    unittest.main()
