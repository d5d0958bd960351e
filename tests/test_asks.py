"""2.1: asks and their frames."""

import unittest

from lineasks.asks import ask_frame, frame_ask, is_ask
from lineasks.errors import NoAsk, NoFrame
from lineasks.frames import framed, is_frame
from things import ODD, TRUTHS, checked, is_exactly, with_one

READ = ("read", 5, 3, 4, 2)
WRITE = ("write", 5, 3, 4, (10, 255))

# The place in the ask, and the ends of the range there.
READ_RANGES = ((1, 1, 99), (2, 0, 15), (3, 0, 15), (4, 1, 8))
WRITE_RANGES = ((1, 0, 99), (2, 0, 15), (3, 0, 15))

NO_WHOLE = TRUTHS + (None, "", "1", [], [1], (), (1,), ((1,),), [[[[1]]]])


def all_ends():
    """Asks with each number at the ends of its range, and near them."""
    told = []
    for number in (0, 1, 14, 15):
        for at in (0, 1, 14, 15):
            for station in (1, 2, 98, 99):
                told += [("read", station, number, at, many) for many in range(1, 9)]
            for station in (0, 1, 98, 99):
                told += [("write", station, number, at, (0, 255, 1, 2, 254, 128, 0, 0)[:many])
                         for many in range(1, 9)]
    return told


class IsAsk(unittest.TestCase):

    def test_asks(self):
        for ask in all_ends():
            with self.subTest(ask):
                self.assertIs(is_ask(ask), True)

    def test_both_ends_and_one_beyond(self):
        for ask, ranges in ((READ, READ_RANGES), (WRITE, WRITE_RANGES)):
            for at, low, high in ranges:
                for number in list(range(-2, 130)) + [255, 256, 10 ** 30, -10 ** 30]:
                    changed = with_one(ask, at, number)
                    with self.subTest(changed):
                        self.assertIs(is_ask(changed), low <= number <= high)

    def test_all_stations_are_written_alone(self):
        self.assertIs(is_ask(("write", 0, 0, 0, (1,))), True)
        self.assertIs(is_ask(("read", 0, 0, 0, 1)), False)

    def test_how_many_values(self):
        for many in range(0, 20):
            with self.subTest(many):
                self.assertIs(is_ask(("write", 1, 0, 0, (7,) * many)), 1 <= many <= 8)

    def test_values_are_bytes(self):
        for value in (-1, 0, 255, 256):
            for at in range(3):
                values = with_one((1, 2, 3), at, value)
                with self.subTest(values):
                    self.assertIs(is_ask(("write", 1, 0, 0, values)), 0 <= value <= 255)
        for wrong in NO_WHOLE:
            for values in ((wrong,), (wrong, 1), (1, wrong)):
                with self.subTest(repr(values)):
                    self.assertIs(is_ask(("write", 1, 0, 0, values)), False)

    def test_values_are_a_tuple(self):
        for values in ([1], [1, 2], "ab", "", None, 1, True, [], ()):
            with self.subTest(repr(values)):
                self.assertIs(is_ask(("write", 1, 0, 0, values)), False)

    def test_many_is_for_reads_and_values_for_writes(self):
        self.assertIs(is_ask(("read", 1, 0, 0, (1,))), False)
        self.assertIs(is_ask(("write", 1, 0, 0, 1)), False)

    def test_no_whole_numbers(self):
        for ask in (READ, WRITE):
            for at in range(1, 5):
                for wrong in NO_WHOLE:
                    if at == 4 and ask is WRITE and wrong == (1,):
                        continue
                    changed = with_one(ask, at, wrong)
                    with self.subTest(repr(changed)):
                        self.assertIs(is_ask(changed), False)

    def test_other_words(self):
        for word in ("", "Read", "reads", "writ", "values", "done", None, 1, 2, True, [], ["read"], ("read",)):
            for ask in (READ, WRITE):
                with self.subTest(repr(word)):
                    self.assertIs(is_ask(with_one(ask, 0, word)), False)

    def test_how_many_parts(self):
        for ask in (READ, WRITE):
            for many in range(0, 5):
                self.assertIs(is_ask(ask[:many]), False)
            self.assertIs(is_ask(ask + (1,)), False)
            self.assertIs(is_ask(ask + ((1,),)), False)
            self.assertIs(is_ask(ask + ask), False)

    def test_lists_are_none(self):
        self.assertIs(is_ask(list(READ)), False)
        self.assertIs(is_ask(list(WRITE)), False)

    def test_any_thing(self):
        for thing in ODD:
            with self.subTest(repr(thing)):
                self.assertIs(is_ask(thing), False)


class AskFrame(unittest.TestCase):

    def test_frames_as_told(self):
        for ask, frame in (
                (("read", 5, 3, 4, 2), (5, 1, 3, 4, 2, 241)),
                (("read", 1, 0, 0, 1), (1, 1, 0, 0, 1, 253)),
                (("read", 99, 15, 15, 8), (99, 1, 15, 15, 8, 118)),
                (("write", 5, 3, 4, (10, 255)), (5, 2, 3, 4, 10, 255, 233)),
                (("write", 0, 0, 0, (0,)), (0, 2, 0, 0, 0, 254)),
                (("write", 99, 15, 15, (255,) * 8), (99, 2, 15, 15) + (255,) * 8 + (133,))):
            with self.subTest(ask):
                self.assertTrue(is_exactly(ask_frame(ask), frame))

    def test_what_framed_tells(self):
        for ask in all_ends():
            word, station, number, at, wanted = ask
            rest = (wanted,) if word == "read" else wanted
            kind = 1 if word == "read" else 2
            with self.subTest(ask):
                self.assertEqual(ask_frame(ask), checked(station, kind, number, at, *rest))
                self.assertEqual(ask_frame(ask), framed([station, kind, number, at, *rest]))

    def test_read_back(self):
        for ask in all_ends():
            with self.subTest(ask):
                self.assertTrue(is_exactly(frame_ask(ask_frame(ask)), ask))

    def test_no_two_asks_have_one_frame(self):
        asks = all_ends()
        self.assertEqual(len({ask_frame(ask) for ask in asks}), len(set(asks)))

    def test_what_is_no_ask(self):
        wrong = list(ODD) + [list(READ), list(WRITE), (1, 255), ("done", 1, 0), ("values", 1, 0, (1,)),
                             ("read", 0, 0, 0, 1), ("read", 100, 0, 0, 1), ("read", 1, 16, 0, 1),
                             ("read", 1, 0, 16, 1), ("read", 1, 0, 0, 0), ("read", 1, 0, 0, 9),
                             ("write", 100, 0, 0, (1,)), ("write", -1, 0, 0, (1,)),
                             ("write", 1, -1, 0, (1,)), ("write", 1, 0, -1, (1,)),
                             ("write", 1, 0, 0, ()), ("write", 1, 0, 0, (1,) * 9),
                             ("write", 1, 0, 0, [1]), ("write", 1, 0, 0, (256,)),
                             ("write", 1, 0, 0, (True,)), ("read", True, 0, 0, 1),
                             ("read", 1, False, 0, 1), ("read", 1, 0, False, 1), ("read", 1, 0, 0, True)]
        for thing in wrong:
            with self.subTest(repr(thing)):
                self.assertRaises(NoAsk, ask_frame, thing)


class FrameAsk(unittest.TestCase):

    def test_frames_of_asks(self):
        for frame, ask in (
                ((5, 1, 3, 4, 2, 241), ("read", 5, 3, 4, 2)),
                ((5, 2, 3, 4, 10, 255, 233), ("write", 5, 3, 4, (10, 255))),
                ((0, 2, 0, 0, 0, 254), ("write", 0, 0, 0, (0,))),
                ((99, 2, 15, 15) + (255,) * 8 + (133,), ("write", 99, 15, 15, (255,) * 8))):
            with self.subTest(frame):
                self.assertTrue(is_exactly(frame_ask(frame), ask))

    def test_frames_of_none(self):
        for parts in (
                (0, 1, 0, 0, 1), (100, 1, 0, 0, 1), (255, 1, 0, 0, 1),
                (1, 1, 16, 0, 1), (1, 1, 255, 0, 1), (1, 1, 0, 16, 1), (1, 1, 0, 255, 1),
                (1, 1, 0, 0, 0), (1, 1, 0, 0, 9), (1, 1, 0, 0, 255),
                (1, 1, 0, 0), (1, 1, 0), (1, 1), (1,), (2,), (1, 1, 0, 0, 1, 1), (1, 1, 0, 0, 1, 0),
                (100, 2, 0, 0, 1), (255, 2, 0, 0, 1), (1, 2, 16, 0, 1), (1, 2, 0, 16, 1),
                (1, 2, 0, 0), (1, 2, 0), (1, 2), (0, 2, 0, 0), (0, 2, 0), (0, 2),
                (1, 2, 0, 0) + (1,) * 9, (0, 2, 0, 0) + (1,) * 9, (1, 2, 0, 0) + (1,) * 15,
                (1, 0, 0, 0, 1), (1, 3, 0, 0, 1), (1, 129, 0, 0, 1), (1, 130, 0), (1, 131, 0, 1),
                (1, 132, 0, 2), (1, 255, 0, 0, 1), (0,) * 19, (255,) * 19):
            frame = checked(*parts)
            with self.subTest(frame):
                self.assertIs(is_frame(frame), True)
                self.assertIsNone(frame_ask(frame))

    def test_each_second_byte(self):
        for kind in range(256):
            ask = frame_ask(checked(7, kind, 3, 4, 5))
            with self.subTest(kind):
                self.assertEqual(ask, {1: ("read", 7, 3, 4, 5), 2: ("write", 7, 3, 4, (5,))}.get(kind))

    def test_check_byte_is_not_read_as_a_part(self):
        # The last byte, if taken for many or for a value, would make asks of these.
        self.assertIsNone(frame_ask((99, 1, 0, 150, 6)))
        self.assertIsNone(frame_ask((252, 1, 0, 0, 3)))
        self.assertIsNone(frame_ask((99, 2, 0, 3, 152)))

    def test_each_is_read_from_its_own_frame_alone(self):
        for station in (0, 1, 99, 100):
            for kind in (0, 1, 2, 3):
                for number in (0, 15, 16):
                    for at in (0, 15, 16):
                        for rest in ((), (0,), (1,), (8,), (9,), (1, 1), (1,) * 8, (1,) * 9):
                            frame = checked(station, kind, number, at, *rest)
                            good = number < 16 and at < 16 and (
                                kind == 1 and 1 <= station <= 99 and rest in ((1,), (8,))
                                or kind == 2 and station <= 99 and 1 <= len(rest) <= 8)
                            ask = frame_ask(frame)
                            self.assertEqual(ask is not None, good, frame)
                            if good:
                                self.assertIs(is_ask(ask), True)
                                self.assertEqual(ask_frame(ask), frame)

    def test_what_is_no_frame(self):
        for thing in list(ODD) + [READ, WRITE, [5, 1, 3, 4, 2, 241], (5, 1, 3, 4, 2, 240),
                                  (True, 1, 0, 0, 1, 253), (1, True, 0, 0, 1, 253),
                                  (1, 1, False, 0, 1, 253), (1, 1, 0, 0, True, 253),
                                  (0,) * 21, (261, 1, 3, 4, 2, 241), (1, 1, 0, 0, 1, -3)]:
            with self.subTest(repr(thing)):
                self.assertRaises(NoFrame, frame_ask, thing)


if __name__ == "__main__":
    unittest.main()
