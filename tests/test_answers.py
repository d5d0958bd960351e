"""2.2: answers and their frames."""

import unittest

from lineasks.asks import answer_frame, frame_answer, frame_ask, is_answer
from lineasks.errors import NoAsk, NoFrame
from lineasks.frames import framed, is_frame
from things import ODD, TRUTHS, checked, is_exactly, with_one

VALUES = ("values", 5, 3, (10, 255))
DONE = ("done", 5, 3)
UNREAD = ("unread", 5, 3, 1)
UNWRITTEN = ("unwritten", 5, 3, 2)
EACH = (VALUES, DONE, UNREAD, UNWRITTEN)
KINDS = {"values": 129, "done": 130, "unread": 131, "unwritten": 132}

NO_WHOLE = TRUTHS + (None, "", "1", [], [1], (), (1,), ((1,),), [[[[1]]]])


def all_ends():
    """Answers with each number at the ends of its range, and near them."""
    told = []
    for station in (1, 2, 98, 99):
        for number in (0, 1, 14, 15):
            told.append(("done", station, number))
            told += [(word, station, number, why) for word in ("unread", "unwritten") for why in (1, 2)]
            told += [("values", station, number, (0, 255, 1, 2, 254, 128, 0, 0)[:many])
                     for many in range(1, 9)]
    return told


def parts_of(answer):
    """The parts that are framed of an answer, by the document's words."""
    word, station, number, *rest = answer
    return [station, KINDS[word], number] + (list(rest[0]) if word == "values" else rest)


class IsAnswer(unittest.TestCase):

    def test_answers(self):
        for answer in all_ends():
            with self.subTest(answer):
                self.assertIs(is_answer(answer), True)

    def test_both_ends_and_one_beyond(self):
        for answer in EACH:
            ranges = [(1, 1, 99), (2, 0, 15)]
            if answer in (UNREAD, UNWRITTEN):
                ranges.append((3, 1, 2))
            for at, low, high in ranges:
                for number in list(range(-2, 130)) + [255, 256, 10 ** 30, -10 ** 30]:
                    changed = with_one(answer, at, number)
                    with self.subTest(changed):
                        self.assertIs(is_answer(changed), low <= number <= high)

    def test_how_many_values(self):
        for many in range(0, 20):
            with self.subTest(many):
                self.assertIs(is_answer(("values", 1, 0, (7,) * many)), 1 <= many <= 8)

    def test_values_are_bytes(self):
        for value in (-1, 0, 255, 256):
            for at in range(3):
                values = with_one((1, 2, 3), at, value)
                with self.subTest(values):
                    self.assertIs(is_answer(("values", 1, 0, values)), 0 <= value <= 255)
        for wrong in NO_WHOLE:
            for values in ((wrong,), (wrong, 1), (1, wrong)):
                with self.subTest(repr(values)):
                    self.assertIs(is_answer(("values", 1, 0, values)), False)

    def test_values_are_a_tuple(self):
        for values in ([1], [1, 2], "ab", "", None, 1, 2, True, [], ()):
            with self.subTest(repr(values)):
                self.assertIs(is_answer(("values", 1, 0, values)), False)

    def test_no_whole_numbers(self):
        for answer in EACH:
            for at in range(1, len(answer)):
                for wrong in NO_WHOLE:
                    if at == 3 and answer is VALUES and wrong == (1,):
                        continue
                    changed = with_one(answer, at, wrong)
                    with self.subTest(repr(changed)):
                        self.assertIs(is_answer(changed), False)

    def test_other_words(self):
        for word in ("", "Done", "value", "read", "write", None, 129, 130, True, [], ["done"], ("done",)):
            for answer in EACH:
                with self.subTest(repr(word)):
                    self.assertIs(is_answer(with_one(answer, 0, word)), False)

    def test_how_many_parts(self):
        for answer in EACH:
            for many in range(0, len(answer)):
                self.assertIs(is_answer(answer[:many]), False)
            for more in ((1,), ((1,),), (None,), (1, 1)):
                self.assertIs(is_answer(answer + more), False)
        self.assertIs(is_answer(("done", 1, 0, 1)), False)
        self.assertIs(is_answer(("done", 1, 0, ())), False)

    def test_lists_are_none(self):
        for answer in EACH:
            self.assertIs(is_answer(list(answer)), False)

    def test_any_thing(self):
        for thing in ODD:
            with self.subTest(repr(thing)):
                self.assertIs(is_answer(thing), False)


class AnswerFrame(unittest.TestCase):

    def test_frames_as_told(self):
        for answer, frame in (
                (("values", 5, 3, (10, 255)), (5, 129, 3, 10, 255, 110)),
                (("values", 99, 15, (255,) * 8), (99, 129, 15) + (255,) * 8 + (21,)),
                (("done", 5, 3), (5, 130, 3, 118)),
                (("done", 1, 0), (1, 130, 0, 125)),
                (("unread", 5, 3, 1), (5, 131, 3, 1, 116)),
                (("unwritten", 5, 3, 2), (5, 132, 3, 2, 114))):
            with self.subTest(answer):
                self.assertTrue(is_exactly(answer_frame(answer), frame))

    def test_what_framed_tells(self):
        for answer in all_ends():
            with self.subTest(answer):
                self.assertEqual(answer_frame(answer), checked(*parts_of(answer)))
                self.assertEqual(answer_frame(answer), framed(parts_of(answer)))

    def test_read_back(self):
        for answer in all_ends():
            with self.subTest(answer):
                self.assertTrue(is_exactly(frame_answer(answer_frame(answer)), answer))
                self.assertIsNone(frame_ask(answer_frame(answer)))

    def test_what_is_no_answer(self):
        wrong = list(ODD) + [list(one) for one in EACH] + [
            (1, 255), ("read", 1, 0, 0, 1), ("write", 1, 0, 0, (1,)),
            ("done", 0, 0), ("done", 100, 0), ("done", 1, -1), ("done", 1, 16), ("done", 1, 0, 0),
            ("values", 0, 0, (1,)), ("values", 100, 0, (1,)), ("values", 1, 16, (1,)),
            ("values", 1, 0, ()), ("values", 1, 0, (1,) * 9), ("values", 1, 0, [1]),
            ("values", 1, 0, (256,)), ("values", 1, 0, (-1,)), ("values", 1, 0, (True,)),
            ("unread", 1, 0, 0), ("unread", 1, 0, 3), ("unread", 0, 0, 1), ("unread", 1, 16, 1),
            ("unwritten", 1, 0, 0), ("unwritten", 1, 0, 3), ("unwritten", 1, 0, True),
            ("done", True, 0), ("done", 1, False), ("unread", 1, 0, True)]
        for thing in wrong:
            with self.subTest(repr(thing)):
                self.assertRaises(NoAsk, answer_frame, thing)


class FrameAnswer(unittest.TestCase):

    def test_frames_of_none(self):
        for parts in (
                (0, 129, 0, 1), (100, 129, 0, 1), (1, 129, 16, 1), (1, 129, 0), (1, 129), (1,),
                (1, 129, 0) + (1,) * 9, (1, 129, 0) + (1,) * 16,
                (0, 130, 0), (100, 130, 0), (1, 130, 16), (1, 130), (1, 130, 0, 0), (1, 130, 0, 1),
                (0, 131, 0, 1), (100, 131, 0, 1), (1, 131, 16, 1), (1, 131, 0, 0), (1, 131, 0, 3),
                (1, 131, 0), (1, 131), (1, 131, 0, 1, 1),
                (0, 132, 0, 1), (100, 132, 0, 1), (1, 132, 16, 1), (1, 132, 0, 0), (1, 132, 0, 3),
                (1, 132, 0), (1, 132), (1, 132, 0, 2, 2),
                (1, 128, 0, 1), (1, 133, 0, 1), (1, 0, 0), (1, 1, 0, 0, 1), (1, 2, 0, 0, 1),
                (0,) * 19, (255,) * 19):
            frame = checked(*parts)
            with self.subTest(frame):
                self.assertIs(is_frame(frame), True)
                self.assertIsNone(frame_answer(frame))

    def test_each_second_byte(self):
        for kind in range(256):
            four = frame_answer(checked(7, kind, 3, 2))
            three = frame_answer(checked(7, kind, 3))
            with self.subTest(kind):
                self.assertEqual(four, {129: ("values", 7, 3, (2,)), 131: ("unread", 7, 3, 2),
                                        132: ("unwritten", 7, 3, 2)}.get(kind))
                self.assertEqual(three, ("done", 7, 3) if kind == 130 else None)

    def test_check_byte_is_not_read_as_a_part(self):
        # The last byte, if taken for number, why or a value, would make answers of these.
        self.assertIsNone(frame_answer((126, 130, 0)))
        self.assertIsNone(frame_answer((122, 131, 3)))
        self.assertIsNone(frame_answer((50, 129, 0, 77)))

    def test_each_is_read_from_its_own_frame_alone(self):
        for station in (0, 1, 99, 100):
            for kind in range(127, 135):
                for number in (0, 15, 16):
                    for rest in ((), (0,), (1,), (2,), (3,), (1, 1), (1,) * 8, (1,) * 9):
                        frame = checked(station, kind, number, *rest)
                        good = 1 <= station <= 99 and number < 16 and (
                            kind == 129 and 1 <= len(rest) <= 8
                            or kind == 130 and rest == ()
                            or kind in (131, 132) and rest in ((1,), (2,)))
                        answer = frame_answer(frame)
                        self.assertEqual(answer is not None, good, frame)
                        if good:
                            self.assertIs(is_answer(answer), True)
                            self.assertEqual(answer_frame(answer), frame)

    def test_what_is_no_frame(self):
        for thing in list(ODD) + list(EACH) + [[5, 130, 3, 118], (5, 130, 3, 117), (True, 130, 0, 125),
                                               (1, 130, False, 125), (1, 131, 0, True, 123),
                                               (1, 130, 0, -131), (257, 130, 0, 125), (0,) * 21]:
            with self.subTest(repr(thing)):
                self.assertRaises(NoFrame, frame_answer, thing)


if __name__ == "__main__":
    unittest.main()
