"""8.1: frames near to bytes that are none."""

import random
import unittest

from lineasks.asks import ask_frame
from lineasks.errors import NoFrame
from lineasks.near import meant, near_frames, unlike
from things import ODD, TRUTHS, checked, is_exactly, with_one

ASKS = (
    ("read", 1, 0, 0, 1), ("read", 99, 15, 15, 8), ("read", 5, 3, 0, 2), ("write", 0, 0, 0, (0,)),
    ("write", 7, 2, 1, (255,) * 8), ("write", 99, 15, 15, (1, 2, 3)), ("write", 0, 15, 15, (9,) * 8),
)


def are_parts(thing):
    """Whether a thing is parts, worked out apart from the program."""
    return (type(thing) in (list, tuple) and 2 <= len(thing) <= 20
            and all(type(one) is int and 0 <= one <= 255 for one in thing))


def near_model(parts):
    """All frames unlike at just one place, by trying all bytes at all places."""
    row = tuple(parts)
    if sum(row) % 256 == 0:
        return [row]
    tried = {with_one(row, at, byte) for at in range(len(row)) for byte in range(256)}
    return sorted(one for one in tried if sum(one) % 256 == 0)


def ask_model(frame):
    """The ask of a frame, or None, worked out from its bytes."""
    station, kind, number, at = frame[:4] if len(frame) >= 6 else (255,) * 4
    if number > 15 or at > 15 or station > 99:
        return None
    if kind == 1 and len(frame) == 6 and station > 0 and 1 <= frame[4] <= 8:
        return ("read", station, number, at, frame[4])
    if kind == 2 and len(frame) <= 13:
        return ("write", station, number, at, frame[4:-1])
    return None


def rows(seed, many):
    """Parts by chance, of all lengths, some of them like asks."""
    chance = random.Random(seed)
    for k in range(many):
        row = [chance.choice((chance.randrange(256), chance.randrange(17))) for one in range(chance.randint(2, 20))]
        if k % 3 == 0:
            row[:2] = [chance.randint(0, 100), chance.choice((1, 2))]
        yield chance.choice((list, tuple))(row)


class Case(unittest.TestCase):

    def refuses(self, action, *given):
        with self.subTest(repr(given)[:200]):
            with self.assertRaises(NoFrame) as caught:
                action(*given)
            self.assertIs(type(caught.exception), NoFrame)

    def exactly(self, told, wanted):
        self.assertTrue(is_exactly(told, wanted), f"{told!r}, not {wanted!r}")


class Unlike(Case):

    def test_as_told(self):
        for one, other, wanted in (
                ((0, 0), (0, 0), 0), ((0, 0), (0, 1), 1), ((0, 0), (1, 0), 1), ((0, 0), (1, 1), 2), ((0, 1), (1, 0), 2),
                ((1, 2, 3), (1, 2), 1), ((1, 2), (1, 2, 3), 1), ((2, 3), (1, 2, 3), 3), ((1, 2, 3), (2, 3), 3),
                ((0,) * 2, (0,) * 20, 18), ((0,) * 20, (1,) * 2, 20), ((255,) * 20, (255,) * 20, 0),
                ((255,) * 20, (0,) * 20, 20), ((5, 0, 5), (5, 1, 5), 1), ((5, 0, 5, 0), (5, 1, 5), 2)):
            for first in (list, tuple):
                for second in (list, tuple):
                    self.exactly(unlike(first(one), second(other)), wanted)
                    self.exactly(unlike(second(other), first(one)), wanted)

    def test_by_chance(self):
        chance = random.Random(81)
        for run in range(300):
            one = [chance.randrange(3) for k in range(chance.randint(2, 20))]
            other = [chance.randrange(3) for k in range(chance.randint(2, 20))]
            long = max(len(one), len(other))
            filled = [row + [None] * (long - len(row)) for row in (one, other)]
            self.exactly(unlike(one, other), sum(a is None or b is None or a != b for a, b in zip(*filled)))

    def test_no_parts(self):
        for wrong in ((), [], (0,), [0], (0,) * 21, [0] * 21, (0,) * 30, (0, 256), (0, -1), (0, True), "00", None, 5):
            for right in ((0, 0), [0] * 20):
                self.refuses(unlike, wrong, right)
                self.refuses(unlike, right, wrong)
            self.refuses(unlike, wrong, wrong)

    def test_any_thing(self):
        for thing in ODD + TRUTHS:
            if are_parts(thing):
                self.exactly(unlike(thing, thing), 0)
            else:
                self.refuses(unlike, thing, (0, 0))
                self.refuses(unlike, [0, 0], thing)
                self.refuses(unlike, thing, thing)

    def test_how_many(self):
        for many in range(25):
            if 2 <= many <= 20:
                self.exactly(unlike((0,) * many, [0] * many), 0)
            else:
                self.refuses(unlike, (0,) * many, [0] * many)


class NearFrames(Case):

    def test_a_frame(self):
        for frame in ((0, 0), (1, 255), (0,) * 20, (5, 1, 0, 10, 240), (255,) * 19 + (19,)):
            self.exactly(near_frames(frame), [frame])

    def test_the_bytes_of_a_frame_in_a_list(self):
        for frame in ((0, 0), (1, 255), (5, 1, 0, 10, 240)):
            self.exactly(near_frames(list(frame)), [frame])

    def test_bytes_that_are_none(self):
        self.exactly(near_frames((0, 1)), [(0, 0), (255, 1)])
        self.exactly(near_frames([1, 0]), [(0, 0), (1, 255)])
        self.exactly(near_frames((1, 1)), [(1, 255), (255, 1)])
        self.exactly(near_frames((255, 255)), [(1, 255), (255, 1)])
        self.exactly(near_frames((10, 20, 30)), [(10, 20, 226), (10, 216, 30), (206, 20, 30)])
        self.exactly(near_frames((128, 128, 128)), [(0, 128, 128), (128, 0, 128), (128, 128, 0)])

    def test_20_bytes(self):
        wanted = sorted(with_one((255,) * 20, at, 19) for at in range(20))
        self.exactly(near_frames((255,) * 20), wanted)
        self.exactly(near_frames([255] * 20), wanted)

    def test_spoilt_at_one_place(self):
        frame = (5, 1, 0, 10, 240)
        for at in range(len(frame)):
            for byte in range(256):
                spoilt = with_one(frame, at, byte)
                told = near_frames(spoilt)
                self.assertIn(frame, told)
                self.assertEqual(len(told), 1 if byte == frame[at] else 5)

    def test_like_trying_all(self):
        for parts in rows(82, 120):
            ahead = list(parts)
            told = near_frames(parts)
            self.exactly(told, near_model(parts))
            self.assertEqual(list(parts), ahead)

    def test_rising_none_twice_and_near(self):
        for parts in rows(83, 200):
            told = near_frames(parts)
            self.assertEqual(told, sorted(set(told)))
            for frame in told:
                self.assertEqual(sum(frame) % 256, 0)
                self.exactly(unlike(parts, frame), 0 if len(told) == 1 else 1)

    def test_each_list_is_new(self):
        for parts in ((0, 0), (0, 1), [0, 1]):
            told = near_frames(parts)
            wanted = list(told)
            told.append(None)
            told[0] = 5
            self.exactly(near_frames(parts), wanted)

    def test_the_list_handed_in_is_not_told(self):
        parts = [1, 255]
        told = near_frames(parts)
        parts[0] = 9
        self.exactly(told, [(1, 255)])


class Meant(Case):

    def test_an_ask(self):
        for ask in ASKS:
            self.exactly(meant(ask_frame(ask)), [ask])
            self.exactly(meant(list(ask_frame(ask))), [ask])

    def test_a_frame_that_is_no_ask(self):
        for frame in ((0, 0), (1, 255), checked(1, 129, 0, 5), checked(1, 130, 0), (0,) * 20, checked(0, 1, 0, 0, 1)):
            self.exactly(meant(frame), [])

    def test_a_spoilt_ask(self):
        self.exactly(meant((5, 1, 0, 0, 1, 248)), [
            ("read", 5, 0, 0, 1), ("read", 5, 0, 0, 2), ("read", 5, 0, 1, 1), ("read", 5, 1, 0, 1),
            ("write", 5, 0, 0, (1,)), ("read", 6, 0, 0, 1)])
        # Word 3 and station 100 would be near as well.
        self.exactly(meant([99, 2, 0, 0, 0, 154]), [
            ("write", 99, 0, 0, (0,)), ("write", 99, 0, 0, (1,)), ("write", 99, 0, 1, (0,)), ("write", 99, 1, 0, (0,))])

    def test_spoilt_asks_are_found_again(self):
        for ask in ASKS:
            frame = ask_frame(ask)
            for at in range(len(frame)):
                for more in (1, 2, 7, 128, 255):
                    spoilt = with_one(frame, at, (frame[at] + more) % 256)
                    told = meant(spoilt)
                    self.assertIn(ask, told)
                    self.exactly(told, [one for one in map(ask_model, near_model(spoilt)) if one is not None])

    def test_by_chance(self):
        found = 0
        for parts in rows(84, 300):
            wanted = [one for one in map(ask_model, near_model(parts)) if one is not None]
            found += len(wanted)
            self.exactly(meant(parts), wanted)
        self.assertGreater(found, 20)

    def test_in_the_order_of_the_frames(self):
        told = meant((5, 1, 0, 0, 1, 248))
        self.assertNotEqual(told, sorted(told))
        frames = [ask_frame(one) for one in told]
        self.assertEqual(frames, sorted(frames))

    def test_each_list_is_new(self):
        told = meant((5, 1, 0, 0, 1, 249))
        told.append(1)
        self.exactly(meant((5, 1, 0, 0, 1, 249)), [("read", 5, 0, 0, 1)])
        empty = meant((0, 0))
        empty.append(1)
        self.exactly(meant((0, 0)), [])


class Refused(Case):

    def test_how_many(self):
        for many in range(25):
            for parts in ((7,) * many, [7] * many, (0,) * many):
                if 2 <= many <= 20:
                    self.assertIsInstance(near_frames(parts), list)
                    self.assertIsInstance(meant(parts), list)
                else:
                    self.refuses(near_frames, parts)
                    self.refuses(meant, parts)

    def test_any_thing(self):
        for thing in ODD + TRUTHS + ("01 ff", b"\x01\xff", {}, range(5)):
            if not are_parts(thing):
                self.refuses(near_frames, thing)
                self.refuses(meant, thing)

    def test_any_thing_within(self):
        for thing in ODD + TRUTHS:
            if not (type(thing) is int and 0 <= thing <= 255):
                for at in range(3):
                    row = with_one((1, 2, 3), at, thing)
                    for parts in (row, list(row)):
                        self.refuses(near_frames, parts)
                        self.refuses(meant, parts)
                        self.refuses(unlike, parts, (1, 2, 3))

    def test_lists_handed_in_are_as_they_were(self):
        for thing in ([1, 2, 3], [1, [2], None], [300, 1], []):
            ahead = repr(thing)
            for action in (near_frames, meant, lambda one: unlike(one, [1, 2]), lambda one: unlike([1, 2], one)):
                try:
                    action(thing)
                except NoFrame:
                    pass
                self.assertEqual(repr(thing), ahead)


if __name__ == "__main__":
    unittest.main()
