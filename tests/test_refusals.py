"""0.3: which refusal comes, of things that are wrong in several ways."""

import unittest

from lineasks.askers import Asker
from lineasks.asks import answer_frame, ask_frame, frame_answer, frame_ask
from lineasks.errors import (Fixed, Full, NoAnswer, NoAsk, NoBack, NoFrame, NoName, NoNumber, NoPlace, NoStation,
                             NoText, Taken)
from lineasks.frames import framed
from lineasks.lines import Line
from lineasks.near import meant, near_frames, unlike
from lineasks.plans import cheapest_reads, cheapest_writes, read_bytes, reads_for
from lineasks.rounds import latest, share, starts
from lineasks.sheets import Sheet, read_sheet, sheet_text
from lineasks.stations import Station
from lineasks.streams import Ear, packed
from lineasks.texts import frame_text, read_frame


class WhichRefusal(unittest.TestCase):

    def refuses(self, kind, action, *given):
        with self.subTest(repr(given)):
            with self.assertRaises(kind) as caught:
                action(*given)
            self.assertIs(type(caught.exception), kind)

    def test_no_frame_of_what_is_no_frame_and_no_ask(self):
        for thing in (None, [], (), ("read", 0, 99, 99, 99), ("done", 0, 99), (300, 1, 99, 99, 99), [[]]):
            self.refuses(NoFrame, frame_ask, thing)
            self.refuses(NoFrame, frame_answer, thing)
            self.refuses(NoFrame, framed, (thing, 300))

    def test_no_ask_of_wrong_stations_bytes_and_numbers(self):
        for thing in (("read", 0, 99, 99, 99), ("write", 100, 16, 16, (300,)), ("write", None, None, None, [])):
            self.refuses(NoAsk, ask_frame, thing)
        for thing in (("values", 0, 99, (300,)), ("done", 100, 16), ("unread", None, None, None)):
            self.refuses(NoAsk, answer_frame, thing)

    def test_no_station_of_wrong_numbers_and_bytes(self):
        for given in ((0, (300,), (5,)), (True, [], None), (1, (300,), (5, 5)), (1, (1,), (1,))):
            self.refuses(NoStation, Station, *given)

    def test_no_number_of_wrong_places_and_bytes(self):
        made = Station(1, (1, 2), (0,))
        for given in ((2, 3), (0, 256), (2, 256), (None, None), (True, True), ([], ())):
            self.refuses(NoNumber, made.change, *given)
        self.assertEqual(made.places(), (1, 2))

    def test_no_number_of_wrong_marks_tries_and_rounds(self):
        made = Station(1, (1, 2), (0,))
        self.refuses(NoNumber, Line, [made], ["well", 5, None])
        self.refuses(NoNumber, Asker, Line([made], []), 0)
        for given in (((), -1), ([], None), (((0, 0),), True)):
            self.refuses(NoNumber, starts, *given)
            self.refuses(NoNumber, latest, *given)

    def test_no_frame_ahead_of_what_a_line_would_do(self):
        line = Line([], ["lost"])
        for thing in (None, (), (1, 2), ("read", 1, 0, 0, 1)):
            self.refuses(NoFrame, line.send, thing)

    def test_no_ask_ahead_of_no_place_fixed_and_no_answer(self):
        asker = Asker(Line([Station(1, (1, 2), (0,))], []), 1)
        for given in ((2, 9, 0), (1, 3, 9), (0, 3, 1), (100, 16, 9)):
            self.refuses(NoAsk, asker.read, *given)
        for given in ((2, 9, ()), (1, 0, (300,)), (0, 0, (1,)), (0, 3, (1,)), (1, 3, [1])):
            self.refuses(NoAsk, asker.write, *given)

    def test_no_place_ahead_of_fixed(self):
        asker = Asker(Line([Station(1, (1, 2), (0,))], []), 1)
        self.refuses(NoPlace, asker.write, 1, 0, (1, 2, 3))
        self.refuses(Fixed, asker.write, 1, 0, (1, 2))
        self.refuses(NoPlace, asker.read, 1, 0, 3)
        self.refuses(NoAnswer, asker.write, 2, 0, (1, 2, 3))

    def test_no_text_of_what_would_be_no_frame(self):
        for thing in ("00 01", "00", None, (1, 2), [1, 255]):
            self.refuses(NoText, read_frame, thing)
            self.refuses(NoFrame, frame_text, thing)

    def test_no_frame_ahead_of_full(self):
        ear = Ear()
        ear.hear((0,) * 400)
        for thing in ([256], (0,) * 400 + (None,), [True] * 401, None):
            self.refuses(NoFrame, ear.hear, thing)
        self.refuses(Full, ear.hear, [0])

    def test_no_frame_of_parts_and_rows_that_are_wrong_in_several_ways(self):
        self.refuses(NoFrame, packed, [(1, 2)] * 21)
        self.refuses(NoFrame, unlike, (), [True] * 21)
        self.refuses(NoFrame, near_frames, [300])
        self.refuses(NoFrame, meant, (None,) * 30)

    def test_no_number_of_plans_that_are_wrong_in_several_ways(self):
        self.refuses(NoNumber, reads_for, [16, 16], 0)
        self.refuses(NoNumber, cheapest_reads, (16, 3, None))
        self.refuses(NoNumber, read_bytes, ((20, 0), None))
        self.refuses(NoNumber, cheapest_writes, (300,), ())

    def test_of_sheets(self):
        sheet = Sheet(2)
        sheet.lay("a", 0, 1)
        self.refuses(NoNumber, sheet.lay, "A", 2, 1)
        self.refuses(NoNumber, sheet.lay, "a", 0, 3)
        self.refuses(NoName, sheet.lay, "A", 0, 1)
        self.refuses(Taken, sheet.lay, "a", 0, 1)
        # In put NoName comes first.
        self.refuses(NoName, sheet.put, "b", 256)
        self.refuses(NoNumber, sheet.put, "a", 256)
        self.refuses(NoBack, sheet.forth)

    def test_no_text_of_what_would_be_no_sheet(self):
        for thing in ("0\na 0 2\n", "0\nA 0 1\n", "0\na 0 1\nb 0 1\n", "300\n", None, [0]):
            self.refuses(NoText, read_sheet, thing)


class SameAgain(unittest.TestCase):

    def test_the_same_is_told_again(self):
        made = Station(1, (1, 2), (0,))
        for action, thing in ((framed, [1, 2]), (ask_frame, ("read", 1, 0, 0, 2)),
                              (answer_frame, ("values", 1, 0, (1, 2))), (frame_ask, (1, 1, 0, 0, 2, 252)),
                              (frame_answer, (1, 130, 0, 125)), (made.take, (1, 1, 0, 0, 2, 252)),
                              (Line([made], []).send, (1, 1, 0, 0, 2, 252)), (share, ((3, 2), (4, 1))),
                              (frame_text, (1, 255)), (read_frame, "01 ff"), (packed, [(1, 255)]),
                              (near_frames, [1, 2]), (meant, (5, 1, 0, 0, 1, 248)), (cheapest_reads, (0, 7, 8, 15)),
                              (read_bytes, [(0, 3)]), (sheet_text, Sheet(3))):
            with self.subTest(repr(thing)):
                first = action(thing)
                self.assertIsNotNone(first)
                self.assertEqual(action(thing), first)


if __name__ == "__main__":
    unittest.main()
