"""1.1 and 0.2 (a): frames."""

import unittest

from lineasks.errors import NoFrame
from lineasks.frames import framed, is_frame
from things import ODD, TRUTHS, checked, is_exactly, with_one


class IsFrame(unittest.TestCase):

    def test_frames(self):
        for thing in ((0, 0), (1, 255), (255, 1), (128, 128), (5, 1, 0, 10, 240), (255, 255, 2),
                      (0,) * 20, (1,) + (0,) * 18 + (255,), (255,) * 19 + (19,)):
            with self.subTest(thing):
                self.assertIs(is_frame(thing), True)

    def test_how_many_bytes(self):
        for many in range(0, 40):
            with self.subTest(many):
                self.assertIs(is_frame((0,) * many), 2 <= many <= 20)

    def test_sums_that_leave_something(self):
        for last in range(256):
            with self.subTest(last):
                self.assertIs(is_frame((7, 3, last)), last == 246)
                self.assertIs(is_frame((200, 200, last)), last == 112)

    def test_each_part_is_a_byte(self):
        for thing in ((-1, 1), (1, -1), (256, 0), (0, 256), (-256, 256), (257, 255), (1, 511),
                      (0, 0, 256), (0, -256, 0), (10 ** 30 * 256, 0)):
            with self.subTest(thing):
                self.assertIs(is_frame(thing), False)

    def test_truths_are_no_bytes(self):
        for thing in ((True, 255), (255, True), (False, False), (False, 0), (0, False),
                      (1, 254, True), (0, 0, False)):
            with self.subTest(thing):
                self.assertIs(is_frame(thing), False)

    def test_lists_are_none(self):
        self.assertIs(is_frame([1, 255]), False)
        self.assertIs(is_frame([0] * 20), False)

    def test_any_thing(self):
        for thing in ODD:
            with self.subTest(repr(thing)):
                self.assertIs(is_frame(thing), False)

    def test_things_within_are_no_bytes(self):
        for thing in (None, "", "0", [], (), [0], (0,), ((0,),), True, False):
            for at in (0, 1, 2):
                with self.subTest(thing=thing, at=at):
                    self.assertIs(is_frame(with_one((0, 0, 0), at, thing)), False)

    def test_spoilt_at_one_place_is_none(self):
        for frame in ((0, 0), (1, 255), (5, 1, 0, 10, 240), (99, 2, 15, 8, 255, 0, 133), (0,) * 20):
            self.assertIs(is_frame(frame), True)
            for at, byte in enumerate(frame):
                for other in range(-1, 258):
                    if other != byte:
                        self.assertIs(is_frame(with_one(frame, at, other)), False)


class Framed(unittest.TestCase):

    def test_one_byte_more(self):
        for parts, frame in (
                ((0,), (0, 0)), ((1,), (1, 255)), ((255,), (255, 1)), ((128,), (128, 128)),
                ((5, 1, 0, 10, 255), (5, 1, 0, 10, 255, 241)), ((128, 128), (128, 128, 0)),
                ((255,) * 19, (255,) * 19 + (19,)), ((0,) * 19, (0,) * 20)):
            with self.subTest(parts):
                self.assertTrue(is_exactly(framed(parts), frame))
                self.assertTrue(is_exactly(framed(list(parts)), frame))

    def test_all_pairs_of_bytes(self):
        for one in range(256):
            for other in (0, 1, 127, 128, 255):
                self.assertEqual(framed((one, other)), checked(one, other))

    def test_what_it_tells_is_a_frame(self):
        for many in range(1, 20):
            for step in (0, 1, 7, 255):
                parts = [(step * at) % 256 for at in range(many)]
                with self.subTest(parts):
                    self.assertIs(is_frame(framed(parts)), True)
                    self.assertEqual(framed(parts)[:-1], tuple(parts))

    def test_how_many_parts(self):
        for many in range(0, 40):
            for parts in ([3] * many, (3,) * many):
                with self.subTest(parts):
                    if 1 <= many <= 19:
                        self.assertEqual(len(framed(parts)), many + 1)
                    else:
                        self.assertRaises(NoFrame, framed, parts)

    def test_each_part_is_a_byte(self):
        for wrong in (-1, 256, 257, 10 ** 30, -10 ** 30, None, "", "1", [], [1], (), (1,)) + TRUTHS:
            for at in (0, 1, 2):
                parts = with_one((1, 2, 3), at, wrong)
                with self.subTest(parts):
                    self.assertRaises(NoFrame, framed, parts)
                    self.assertRaises(NoFrame, framed, list(parts))
            with self.subTest(wrong):
                self.assertRaises(NoFrame, framed, (wrong,))
                self.assertRaises(NoFrame, framed, [wrong])

    def test_no_list_or_tuple(self):
        for thing in ODD:
            if not isinstance(thing, (list, tuple)):
                with self.subTest(repr(thing)):
                    self.assertRaises(NoFrame, framed, thing)

    def test_parts_are_not_changed(self):
        parts = [1, 2, 3]
        self.assertEqual(framed(parts), (1, 2, 3, 250))
        self.assertEqual(parts, [1, 2, 3])
        wrong = [1, [2], 300]
        self.assertRaises(NoFrame, framed, wrong)
        self.assertEqual(wrong, [1, [2], 300])

    def test_parts_are_not_kept(self):
        parts = [1, 2, 3]
        frame = framed(parts)
        parts[0] = 9
        parts.append(4)
        self.assertEqual(frame, (1, 2, 3, 250))

    def test_the_same_again(self):
        self.assertEqual(framed([4, 4]), framed([4, 4]))


if __name__ == "__main__":
    unittest.main()
