"""3.1, 3.2 and 0.2 (c): stations."""

import random
import unittest

from lineasks.asks import answer_frame, ask_frame, frame_ask
from lineasks.errors import NoNumber, NoStation
from lineasks.frames import is_frame
from lineasks.stations import Station
from things import NESTED, ODD, PLAIN, TRUTHS, checked, is_exactly, with_one


def read(station, number, at, many):
    return ask_frame(("read", station, number, at, many))


def write(station, number, at, values):
    return ask_frame(("write", station, number, at, values))


def values(station, number, held):
    return answer_frame(("values", station, number, held))


def done(station, number):
    return answer_frame(("done", station, number))


def unread(station, number):
    return answer_frame(("unread", station, number, 1))


def unwritten(station, number, why):
    return answer_frame(("unwritten", station, number, why))


class Making(unittest.TestCase):

    def test_as_made(self):
        for number, held, fixed in (
                (1, (0,), ()), (99, (255,), (0,)), (5, (1, 2, 3), (1,)), (7, tuple(range(16)), ()),
                (7, tuple(range(16)), tuple(range(16))), (7, (4,) * 16, (0, 15))):
            with self.subTest(number=number, held=held, fixed=fixed):
                made = Station(number, held, fixed)
                self.assertTrue(is_exactly(made.number(), number))
                self.assertTrue(is_exactly(made.places(), held))

    def test_number(self):
        for number in (-1, 0, 100, 256, 10 ** 30, None, "", "1", [1], (1,), (), []) + TRUTHS:
            with self.subTest(repr(number)):
                self.assertRaises(NoStation, Station, number, (1, 2), ())

    def test_held(self):
        for held in ((), (1,) * 17, (1,) * 18, [1, 2], [], "ab", None, 1, True, (256,), (-1,), (1, 256),
                     (True,), (1, False), (None,), ("1",), ((1,),), ([1],), (1, (2,))):
            with self.subTest(repr(held)):
                self.assertRaises(NoStation, Station, 1, held, ())

    def test_how_many_held(self):
        for many in range(1, 17):
            self.assertEqual(len(Station(1, (9,) * many, ()).places()), many)

    def test_fixed(self):
        for fixed in ([], [0], [0, 1], "", "0", None, 0, True, False, (3,), (4,), (0, 3), (-1,), (-1, 0),
                      (1, 0), (2, 1), (0, 0), (1, 1), (0, 1, 1), (0, 2, 1), (True,), (False,), (0, True),
                      (False, 1), (None,), ("0",), ((0,),), ([0],), (0, (1,)), (16,), (10 ** 30,)):
            with self.subTest(repr(fixed)):
                self.assertRaises(NoStation, Station, 1, (1, 2, 3), fixed)

    def test_fixed_to_the_last_place(self):
        for many in range(1, 17):
            held = (9,) * many
            self.assertEqual(Station(1, held, (many - 1,)).places(), held)
            self.assertRaises(NoStation, Station, 1, held, (many,))

    def test_any_thing(self):
        for thing in ODD:
            with self.subTest(repr(thing)):
                if not (type(thing) is int and 1 <= thing <= 99):
                    self.assertRaises(NoStation, Station, thing, (1, 2), (0,))
                self.assertRaises(NoStation, Station, 1, thing, (16,))
                if thing != () and not is_exactly(thing, (0,)) and not is_exactly(thing, (1,)):
                    self.assertRaises(NoStation, Station, 1, (1, 2), thing)
        self.assertRaises(NoStation, Station, NESTED, NESTED, NESTED)
        self.assertRaises(NoStation, Station, None, [], {})

    def test_what_is_handed_in_is_not_changed(self):
        held = (1, 2, 3)
        fixed = (2,)
        made = Station(5, held, fixed)
        made.change(0, 9)
        made.take(write(5, 0, 1, (8,)))
        self.assertEqual(held, (1, 2, 3))
        self.assertEqual(fixed, (2,))
        self.assertEqual(made.places(), (9, 8, 3))

    def test_stations_of_one_making_share_nothing(self):
        held = (1, 2, 3)
        one = Station(5, held, ())
        other = Station(5, held, ())
        one.change(0, 9)
        one.take(write(5, 0, 1, (8,)))
        self.assertEqual(other.places(), (1, 2, 3))
        self.assertEqual(other.take(write(5, 0, 1, (8,))), done(5, 0))
        self.assertEqual(other.places(), (1, 8, 3))


class Change(unittest.TestCase):

    def test_each_place_fixed_or_not(self):
        made = Station(5, (1, 2, 3), (1,))
        self.assertIsNone(made.change(0, 0))
        self.assertEqual(made.places(), (0, 2, 3))
        self.assertIsNone(made.change(1, 255))
        self.assertEqual(made.places(), (0, 255, 3))
        self.assertIsNone(made.change(2, 7))
        self.assertEqual(made.places(), (0, 255, 7))
        self.assertIsNone(made.change(2, 7))
        self.assertEqual(made.places(), (0, 255, 7))

    def test_told_places_stay_as_they_were(self):
        made = Station(5, (1, 2, 3), ())
        told = made.places()
        made.change(0, 9)
        self.assertEqual(told, (1, 2, 3))

    def test_what_is_read_then(self):
        made = Station(5, (1, 2, 3), (1,))
        made.change(1, 200)
        self.assertEqual(made.take(read(5, 0, 0, 3)), values(5, 0, (1, 200, 3)))

    def test_last_place_and_beyond(self):
        for many in (1, 2, 15, 16):
            made = Station(5, (1,) * many, ())
            made.change(many - 1, 6)
            self.assertEqual(made.places(), (1,) * (many - 1) + (6,))
            for at in (many, many + 1, -1, -many):
                self.assertRaises(NoNumber, made.change, at, 3)
            self.assertEqual(made.places(), (1,) * (many - 1) + (6,))

    def test_wrong_numbers_change_nothing(self):
        made = Station(5, (1, 2, 3), (1,))
        for at in (-1, 3, 16, 10 ** 30, None, "", "0", [], [0], (0,), ()) + TRUTHS:
            with self.subTest(repr(at)):
                self.assertRaises(NoNumber, made.change, at, 9)
                self.assertRaises(NoNumber, made.change, at, 256)
        for value in (-1, 256, 10 ** 30, None, "", "0", [], [0], (0,), ()) + TRUTHS:
            for at in (0, 1, 2):
                with self.subTest(at=at, value=repr(value)):
                    self.assertRaises(NoNumber, made.change, at, value)
        self.assertTrue(is_exactly(made.places(), (1, 2, 3)))
        self.assertEqual(made.number(), 5)

    def test_any_thing(self):
        made = Station(5, (1, 2, 3), ())
        for thing in ODD:
            with self.subTest(repr(thing)):
                if not (type(thing) is int and 0 <= thing <= 2):
                    self.assertRaises(NoNumber, made.change, thing, 9)
                if not (type(thing) is int and 0 <= thing <= 255):
                    self.assertRaises(NoNumber, made.change, 0, thing)
        self.assertEqual(made.places(), (1, 2, 3))

    def test_a_refused_change_leaves_the_last_write(self):
        made = Station(5, (1, 2, 3), ())
        made.take(write(5, 0, 0, (9,)))
        made.change(0, 4)
        self.assertRaises(NoNumber, made.change, 3, 4)
        self.assertEqual(made.take(write(5, 0, 0, (9,))), done(5, 0))
        self.assertEqual(made.places(), (4, 2, 3))


class Reads(unittest.TestCase):

    def test_as_told_in_bytes(self):
        made = Station(5, (10, 20, 30), (1,))
        self.assertTrue(is_exactly(made.take((5, 1, 7, 1, 2, 240)), checked(5, 129, 7, 20, 30)))
        self.assertTrue(is_exactly(made.take((5, 1, 7, 2, 2, 239)), checked(5, 131, 7, 1)))

    def test_within_at_the_end_and_beyond(self):
        for size in (1, 2, 3, 8, 9, 15, 16):
            held = tuple(range(100, 100 + size))
            for fixed in ((), (0,), tuple(range(size))):
                made = Station(42, held, fixed)
                for at in range(16):
                    for many in range(1, 9):
                        number = (at + many) % 16
                        told = made.take(read(42, number, at, many))
                        if at + many <= size:
                            self.assertEqual(told, values(42, number, held[at:at + many]))
                        else:
                            self.assertEqual(told, unread(42, number))
                self.assertEqual(made.places(), held)

    def test_each_number_is_told_again(self):
        made = Station(99, (1, 2), ())
        for number in range(16):
            self.assertEqual(made.take(read(99, number, 0, 2)), values(99, number, (1, 2)))
            self.assertEqual(made.take(read(99, number, 1, 2)), unread(99, number))

    def test_the_same_read_tells_what_stands_there_now(self):
        made = Station(5, (1, 2, 3), ())
        self.assertEqual(made.take(read(5, 0, 0, 2)), values(5, 0, (1, 2)))
        self.assertEqual(made.take(read(5, 0, 0, 2)), values(5, 0, (1, 2)))
        made.change(1, 77)
        self.assertEqual(made.take(read(5, 0, 0, 2)), values(5, 0, (1, 77)))
        made.take(write(5, 0, 0, (66,)))
        self.assertEqual(made.take(read(5, 0, 0, 2)), values(5, 0, (66, 77)))


class Writes(unittest.TestCase):

    def test_as_told_in_bytes(self):
        made = Station(5, (10, 20, 30), (0,))
        self.assertTrue(is_exactly(made.take((5, 2, 7, 1, 90, 91, 60)), checked(5, 130, 7)))
        self.assertTrue(is_exactly(made.places(), (10, 90, 91)))
        self.assertTrue(is_exactly(made.take(checked(5, 2, 7, 0, 1)), checked(5, 132, 7, 2)))
        self.assertTrue(is_exactly(made.take(checked(5, 2, 7, 2, 1, 1)), checked(5, 132, 7, 1)))
        self.assertTrue(is_exactly(made.places(), (10, 90, 91)))

    def test_within_at_the_end_and_beyond(self):
        for size in (1, 2, 3, 8, 9, 15, 16):
            for fixed in ((), (0,), (size - 1,), (size // 2,), tuple(range(size))):
                for at in range(16):
                    for many in range(1, 9):
                        held = tuple(range(100, 100 + size))
                        made = Station(42, held, fixed)
                        told = made.take(write(42, 3, at, tuple(range(many))))
                        if at + many > size:
                            self.assertEqual(told, unwritten(42, 3, 1))
                        elif any(at <= place < at + many for place in fixed):
                            self.assertEqual(told, unwritten(42, 3, 2))
                        else:
                            self.assertEqual(told, done(42, 3))
                            held = held[:at] + tuple(range(many)) + held[at + many:]
                        self.assertEqual(made.places(), held)

    def test_why_one_is_ahead_of_why_two(self):
        made = Station(5, (1, 2, 3), (0, 1, 2))
        self.assertEqual(made.take(write(5, 0, 2, (9, 9))), unwritten(5, 0, 1))
        self.assertEqual(made.take(write(5, 1, 2, (9,))), unwritten(5, 1, 2))
        self.assertEqual(made.take(write(5, 2, 3, (9,))), unwritten(5, 2, 1))
        self.assertEqual(made.places(), (1, 2, 3))

    def test_next_to_a_fixed_place(self):
        made = Station(5, (1, 2, 3, 4, 5), (2,))
        self.assertEqual(made.take(write(5, 0, 0, (9, 9))), done(5, 0))
        self.assertEqual(made.take(write(5, 1, 3, (8, 8))), done(5, 1))
        self.assertEqual(made.take(write(5, 2, 1, (7, 7))), unwritten(5, 2, 2))
        self.assertEqual(made.take(write(5, 3, 2, (7, 7))), unwritten(5, 3, 2))
        self.assertEqual(made.take(write(5, 4, 2, (3,))), unwritten(5, 4, 2))
        self.assertEqual(made.places(), (9, 9, 3, 8, 8))

    def test_what_is_asked_again_is_not_written_again(self):
        made = Station(5, (1, 2, 3), ())
        ask = write(5, 0, 1, (9, 8))
        self.assertEqual(made.take(ask), done(5, 0))
        made.change(1, 50)
        for again in range(3):
            self.assertEqual(made.take(ask), done(5, 0))
            self.assertEqual(made.places(), (1, 50, 8))

    def test_with_a_read_between(self):
        made = Station(5, (1, 2, 3), ())
        ask = write(5, 0, 0, (9,))
        made.take(ask)
        made.change(0, 50)
        self.assertEqual(made.take(read(5, 0, 0, 1)), values(5, 0, (50,)))
        self.assertEqual(made.take(read(5, 0, 3, 1)), unread(5, 0))
        self.assertEqual(made.take(ask), done(5, 0))
        self.assertEqual(made.places(), (50, 2, 3))

    def test_with_another_write_between(self):
        made = Station(5, (1, 2, 3), ())
        one = write(5, 0, 0, (9,))
        for other in (write(5, 1, 0, (9,)), write(5, 0, 1, (9,)), write(5, 0, 0, (8,)),
                      write(5, 0, 0, (9, 9)), write(5, 0, 15, (9,))):
            with self.subTest(other):
                made.take(one)
                made.take(other)
                made.change(0, 50)
                self.assertEqual(made.take(one), done(5, 0))
                self.assertEqual(made.places()[0], 9)

    def test_a_refused_write_is_a_last_write(self):
        made = Station(5, (1, 2, 3), (2,))
        one = write(5, 0, 0, (9,))
        for other, told in ((write(5, 1, 2, (9,)), unwritten(5, 1, 2)),
                            (write(5, 1, 3, (9,)), unwritten(5, 1, 1))):
            with self.subTest(other):
                made.take(one)
                self.assertEqual(made.take(other), told)
                self.assertEqual(made.take(other), told)
                made.change(0, 50)
                self.assertEqual(made.take(one), done(5, 0))
                self.assertEqual(made.places(), (9, 2, 3))

    def test_like_writes_of_other_numbers_are_each_done(self):
        made = Station(5, (1, 2, 3), ())
        for number in range(16):
            made.change(0, 50)
            self.assertEqual(made.take(write(5, number, 0, (9,))), done(5, number))
            self.assertEqual(made.places(), (9, 2, 3))

    def test_what_is_told_again_is_equal(self):
        made = Station(5, (1, 2, 3), (2,))
        for ask in (write(5, 4, 0, (9, 9)), write(5, 4, 2, (9,)), write(5, 4, 1, (9, 9, 9))):
            first = made.take(ask)
            self.assertEqual(made.take(ask), first)
            self.assertEqual(made.take(tuple(list(ask))), first)

    def test_the_same_write_with_things_for_others_between(self):
        made = Station(5, (1, 2, 3), ())
        ask = write(5, 0, 0, (9,))
        for between in (write(6, 0, 0, (7,)), write(6, 0, 0, (9,)), read(6, 0, 0, 1), done(5, 0),
                        (1, 255), (0, 0), None, list(ask), with_one(ask, 2, 1)):
            with self.subTest(repr(between)):
                made.take(ask)
                made.change(0, 50)
                self.assertIsNone(made.take(between))
                self.assertEqual(made.take(ask), done(5, 0))
                self.assertEqual(made.places(), (50, 2, 3))


class AllStations(unittest.TestCase):

    def test_it_is_written_and_none_is_told(self):
        made = Station(5, (1, 2, 3), (2,))
        self.assertIsNone(made.take(write(0, 0, 0, (9, 8))))
        self.assertEqual(made.places(), (9, 8, 3))

    def test_nothing_is_written_where_it_cannot_be(self):
        made = Station(5, (1, 2, 3), (2,))
        for ask in (write(0, 0, 2, (9,)), write(0, 0, 1, (9, 9)), write(0, 0, 3, (9,)),
                    write(0, 0, 0, (9,) * 4), write(0, 0, 15, (9,) * 8)):
            with self.subTest(ask):
                self.assertIsNone(made.take(ask))
                self.assertEqual(made.places(), (1, 2, 3))

    def test_the_same_is_written_again(self):
        made = Station(5, (1, 2, 3), ())
        ask = write(0, 0, 0, (9,))
        for again in range(3):
            self.assertIsNone(made.take(ask))
            self.assertEqual(made.places(), (9, 2, 3))
            made.change(0, 50)

    def test_it_is_no_last_write(self):
        made = Station(5, (1, 2, 3), ())
        ask = write(5, 0, 0, (9,))
        self.assertEqual(made.take(ask), done(5, 0))
        self.assertIsNone(made.take(write(0, 0, 0, (70,))))
        self.assertEqual(made.take(ask), done(5, 0))
        self.assertEqual(made.places(), (70, 2, 3))
        self.assertIsNone(made.take(write(0, 0, 15, (70,))))
        self.assertEqual(made.take(ask), done(5, 0))
        self.assertEqual(made.places(), (70, 2, 3))

    def test_no_read_of_all(self):
        made = Station(5, (1, 2, 3), ())
        self.assertIsNone(made.take(checked(0, 1, 0, 0, 1)))


class OtherThings(unittest.TestCase):

    def test_other_stations(self):
        made = Station(5, (1, 2, 3), ())
        for other in list(range(1, 5)) + list(range(6, 100)):
            self.assertIsNone(made.take(read(other, 0, 0, 1)))
            self.assertIsNone(made.take(write(other, 0, 0, (9,))))
            self.assertIsNone(made.take(write(other, 0, 15, (9,))))
        self.assertEqual(made.places(), (1, 2, 3))

    def test_stations_of_each_number(self):
        for number in range(1, 100):
            made = Station(number, (1, 2), ())
            self.assertEqual(made.take(read(number, 1, 0, 2)), values(number, 1, (1, 2)))
            self.assertEqual(made.take(write(number, 1, 0, (8,))), done(number, 1))

    def test_frames_that_are_no_asks(self):
        made = Station(5, (1, 2, 3), ())
        for parts in ((5,), (5, 1), (5, 2), (5, 1, 0, 0), (5, 2, 0, 0), (5, 1, 0, 0, 0), (5, 1, 0, 0, 9),
                      (5, 1, 16, 0, 1), (5, 2, 16, 0, 9), (5, 2, 0, 16, 9), (5, 1, 0, 0, 1, 1),
                      (5, 2, 0, 0) + (9,) * 9, (5, 3, 0, 0, 1), (5, 129, 0, 1), (5, 130, 0),
                      (5, 131, 0, 1), (5, 132, 0, 1), (0, 1, 0, 0, 1), (0, 2, 16, 0, 9), (100, 2, 0, 0, 9)):
            frame = checked(*parts)
            with self.subTest(frame):
                self.assertIs(is_frame(frame), True)
                self.assertIsNone(frame_ask(frame))
                self.assertIsNone(made.take(frame))
                self.assertEqual(made.places(), (1, 2, 3))

    def test_things_that_are_no_frames(self):
        made = Station(5, (1, 2, 3), ())
        spoilt = write(5, 0, 0, (9,))
        for thing in list(PLAIN) + list(NESTED) + [
                list(spoilt), list(read(5, 0, 0, 1)), spoilt[:-1], spoilt + (0,) * 14,
                ("read", 5, 0, 0, 1), ("write", 5, 0, 0, (9,)), with_one(spoilt, 2, False),
                with_one(spoilt, 3, False), (5, True, 0, 0, 1, 249), (5, 1, 0, 0, True, 249)]:
            with self.subTest(repr(thing)):
                self.assertIsNone(made.take(thing))
        self.assertEqual(made.places(), (1, 2, 3))

    def test_spoilt_asks(self):
        made = Station(5, (1, 2, 3), ())
        for frame in (read(5, 0, 0, 1), write(5, 0, 0, (9,)), write(0, 0, 0, (9,))):
            for at in range(len(frame)):
                for byte in range(256):
                    if byte != frame[at]:
                        self.assertIsNone(made.take(with_one(frame, at, byte)))
        self.assertEqual(made.places(), (1, 2, 3))

    def test_what_is_handed_in_is_not_changed(self):
        made = Station(5, (1, 2, 3), ())
        thing = [5, [2, [0]], (0, 9)]
        made.take(thing)
        self.assertEqual(thing, [5, [2, [0]], (0, 9)])


class Model:
    """A station by the document's words, over asks instead of frames."""

    def __init__(self, number, held, fixed):
        self.mine, self.now, self.fixed = number, dict(enumerate(held)), fixed
        self.ahead = (None, None)

    def write(self, at, given):
        if any(at + k not in self.now for k in range(len(given))):
            return 1
        if any(at + k in self.fixed for k in range(len(given))):
            return 2
        self.now.update({at + k: one for k, one in enumerate(given)})
        return 0

    def take(self, ask):
        word, station, number, at, last = ask
        if station == 0:
            self.write(at, last)
        if station != self.mine:
            return None
        if word == "read":
            if any(at + k not in self.now for k in range(last)):
                return unread(station, number)
            return values(station, number, tuple(self.now[at + k] for k in range(last)))
        if self.ahead[0] != ask:
            why = self.write(at, last)
            self.ahead = (ask, unwritten(station, number, why) if why else done(station, number))
        return self.ahead[1]


class LongRuns(unittest.TestCase):

    def test_like_the_model(self):
        chance = random.Random(1811)
        for run in range(60):
            size = chance.randint(1, 16)
            held = tuple(chance.randrange(256) for k in range(size))
            fixed = tuple(k for k in range(size) if chance.random() < 0.2)
            made, model = Station(3, held, fixed), Model(3, held, fixed)
            asks = []
            for k in range(12):
                at = chance.randrange(min(16, size + 1))
                number = chance.randrange(16)
                station = chance.choice((3, 3, 3, 0, 4))
                if station != 0 and chance.random() < 0.3:
                    asks.append(("read", station, number, at, chance.randint(1, 4)))
                else:
                    given = tuple(chance.randrange(256) for j in range(chance.randint(1, 3)))
                    asks.append(("write", station, number, at, given))
            for step in range(120):
                if chance.random() < 0.2:
                    at, value = chance.randrange(size), chance.randrange(256)
                    made.change(at, value)
                    model.now[at] = value
                ask = chance.choice(asks) if step == 0 or chance.random() < 0.6 else ask
                self.assertEqual(made.take(ask_frame(ask)), model.take(ask))
                self.assertEqual(made.places(), tuple(model.now[k] for k in range(size)))


if __name__ == "__main__":
    unittest.main()
