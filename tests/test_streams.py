"""7.1, 7.2, 7.3, 0.2 (g) and (i): frames in a row, and ears."""

import random
import unittest

from lineasks.errors import Full, NoBack, NoFrame
from lineasks.streams import Ear, packed
from things import ODD, TRUTHS, checked, is_exactly, with_one

SMALL = (1, 255)
GREAT = (0,) * 20


def is_byte(thing):
    return type(thing) is int and 0 <= thing <= 255


def are_bytes(thing):
    """Whether a thing is what an ear can hear."""
    return type(thing) in (list, tuple) and all(map(is_byte, thing))


def model(row):
    """The frames, their spots and how many bytes are not decided, place by place and by words alone."""
    frames, spots, skip = [], [], 0
    for place, byte in enumerate(row):
        if place < skip:
            continue
        if not 2 <= byte <= 20:
            continue
        behind = row[place + 1:]
        if len(behind) < byte:
            return frames, spots, len(row) - place
        if sum(behind[:byte]) % 256 == 0:
            frames.append(tuple(behind[:byte]))
            spots.append(place)
            skip = place + 1 + byte
    return frames, spots, 0


def seen(ear):
    """All that an ear tells of itself."""
    return ear.frames(), ear.spots(), ear.undecided(), ear.many()


def history(ear):
    """All that an ear tells of itself, and of all that it can take back or let come again, as a twin does it."""
    told = [seen(ear)]
    for action in ("back", "forth"):
        other = ear.twin()
        while True:
            try:
                told.append((action, getattr(other, action)(), seen(other)))
            except NoBack:
                break
    return told


def by_chance(chance, most):
    """A frame by chance."""
    return checked(*[chance.choice((chance.randrange(256), chance.randrange(22)))
                     for k in range(chance.randint(1, most - 1))])


def in_parts(chance, row):
    """The row in parts of any lengths, some of them empty."""
    parts = []
    while row:
        many = chance.choice((0, 1, 1, 2, 3, chance.randint(1, 30)))
        parts.append(row[:many])
        row = row[many:]
    return parts


class Case(unittest.TestCase):

    def refuses(self, kind, action, *given):
        with self.subTest(repr(given)[:200]):
            with self.assertRaises(kind) as caught:
                action(*given)
            self.assertIs(type(caught.exception), kind)

    def exactly(self, told, wanted):
        self.assertTrue(is_exactly(told, wanted), f"{told!r}, not {wanted!r}")


class Packed(Case):

    def test_as_told(self):
        self.exactly(packed([]), ())
        self.exactly(packed(()), ())
        self.exactly(packed([SMALL]), (2, 1, 255))
        self.exactly(packed([SMALL, (5, 1, 0, 10, 240), (0, 0, 0)]), (2, 1, 255, 5, 5, 1, 0, 10, 240, 3, 0, 0, 0))
        self.exactly(packed([GREAT]), (20,) + GREAT)

    def test_the_order_and_the_same_twice(self):
        self.exactly(packed([(2, 254), SMALL]), (2, 2, 254, 2, 1, 255))
        self.exactly(packed([SMALL, (2, 254)]), (2, 1, 255, 2, 2, 254))
        self.exactly(packed([SMALL, SMALL]), (2, 1, 255) * 2)

    def test_lists_and_tuples(self):
        frames = [SMALL, GREAT, (0, 0, 0)]
        self.exactly(packed(tuple(frames)), packed(frames))

    def test_how_many(self):
        for many in range(21):
            self.exactly(packed([SMALL] * many), (2, 1, 255) * many)
            self.exactly(packed((GREAT,) * many), ((20,) + GREAT) * many)
        for many in (21, 22, 40):
            self.refuses(NoFrame, packed, [SMALL] * many)
            self.refuses(NoFrame, packed, (GREAT,) * many)

    def test_how_long(self):
        for many in range(0, 25):
            if 2 <= many <= 20:
                self.exactly(packed([(0,) * many]), (many,) + (0,) * many)
            else:
                self.refuses(NoFrame, packed, [(0,) * many])

    def test_any_thing(self):
        for thing in ODD + TRUTHS + (SMALL, GREAT, "01 ff", b"\x01\xff", {}, {SMALL: 1}, range(2)):
            if thing == [] or thing == ():
                continue
            if thing == ((1, 255),) or thing == ((0, 0),):
                continue
            self.refuses(NoFrame, packed, thing)

    def test_any_thing_among_frames(self):
        for thing in ODD + ([1, 255], (1, 2), (True, 255), (0,) * 21):
            for at in range(3):
                row = with_one((SMALL, GREAT, SMALL), at, thing)
                self.refuses(NoFrame, packed, row)
                self.refuses(NoFrame, packed, list(row))

    def test_a_spoilt_frame_is_none(self):
        for at in range(2):
            for byte in range(256):
                if byte != SMALL[at]:
                    self.assertRaises(NoFrame, packed, [with_one(SMALL, at, byte)])

    def test_the_list_is_as_it_was(self):
        frames = [SMALL, GREAT]
        packed(frames)
        self.assertEqual(frames, [SMALL, GREAT])


class Hear(Case):

    def heard(self, row, frames, spots, undecided):
        """One ear hears all at once, one byte by byte: both find the same."""
        ear = Ear()
        self.exactly(ear.hear(row), frames)
        self.exactly(seen(ear), (frames, spots, undecided, len(row)))
        slow = Ear()
        told = []
        for byte in row:
            told += slow.hear([byte])
        self.exactly(told, frames)
        self.exactly(seen(slow), (frames, spots, undecided, len(row)))

    def test_nothing_came(self):
        self.exactly(seen(Ear()), ([], [], 0, 0))
        self.heard([], [], [], 0)
        self.heard((), [], [], 0)

    def test_packed(self):
        frames = [SMALL, (5, 1, 0, 10, 240), GREAT, SMALL]
        self.heard(packed(frames), frames, [0, 3, 9, 30], 0)
        self.heard(list(packed(frames)), frames, [0, 3, 9, 30], 0)

    def test_what_are_no_lengths(self):
        for byte in (0, 1, 21, 22, 100, 254, 255):
            self.heard((byte,), [], [], 0)
            self.heard((byte,) * 5, [], [], 0)
            self.heard((byte, 2, 1, 255), [SMALL], [1], 0)
            self.heard((2, 1, 255, byte), [SMALL], [0], 0)
            self.heard((byte, 2, 1, 255, byte, byte, 2, 2, 254, byte), [SMALL, (2, 254)], [1, 6], 0)

    def test_each_byte_as_a_length(self):
        for byte in range(256):
            row = (byte,) + (0,) * 19
            if 2 <= byte <= 19:
                self.heard(row, [(0,) * byte], [0], 0)
            else:
                self.heard(row, [], [], 20 if byte == 20 else 0)
            self.heard((byte,), [], [], 1 if 2 <= byte <= 20 else 0)

    def test_the_least_and_the_greatest_length(self):
        self.heard((2, 0), [], [], 2)
        self.heard((2, 0, 0), [(0, 0)], [0], 0)
        self.heard((20,) + (0,) * 19, [], [], 20)
        self.heard((20,) + (0,) * 20, [GREAT], [0], 0)
        self.heard((21,) + (0,) * 21, [], [], 0)
        self.heard((1, 0), [], [], 0)
        self.heard((0, 0), [], [], 0)

    def test_lengths_that_are_none(self):
        # 3 bytes behind it are no frame, so the ear goes on to the next byte, a 2.
        self.heard((3, 2, 1, 255), [SMALL], [1], 0)
        self.heard((2, 2, 1, 255), [SMALL], [1], 0)
        self.heard((2, 1, 255, 3, 2, 1, 255), [SMALL, SMALL], [0, 4], 0)
        # Where they are one, the frame that stands within is not found.
        self.heard((4, 2, 1, 255, 254), [(2, 1, 255, 254)], [0], 0)

    def test_on_behind_a_frame_alone(self):
        self.heard((2, 2, 254, 0), [(2, 254)], [0], 0)
        self.heard((2, 2, 254, 2, 254), [(2, 254)], [0], 2)
        self.heard((2, 2, 254, 2, 2, 254), [(2, 254)] * 2, [0, 3], 0)

    def test_spoilt_frames(self):
        self.heard((2, 1, 254, 2, 1, 255), [SMALL], [3], 0)
        self.heard((5, 5, 1, 0, 30, 241, 2, 1, 255), [SMALL], [6], 0)
        self.heard((5, 5, 1, 0, 10, 241, 2, 1, 255), [], [], 5)
        # The 10 within the spoilt frame is a length as well, and all behind it waits for that.
        self.heard((5, 5, 1, 0, 10, 241, 0, 0), [], [], 4)
        self.heard((3, 0, 0, 1, 0, 0), [], [], 0)

    def test_a_spoilt_length(self):
        self.heard((3, 1, 255, 2, 2, 254), [(2, 254)], [3], 0)
        self.heard((2, 5, 1, 0, 10, 240), [], [], 5)

    def test_undecided_at_the_end(self):
        self.heard((2, 1, 255, 5), [SMALL], [0], 1)
        self.heard((2, 1, 255, 5, 1, 1, 1, 1), [SMALL], [0], 5)
        self.heard((20, 2, 1, 255), [], [], 4)
        self.heard((0, 1, 21, 4, 2, 1, 255), [], [], 4)
        self.heard((20,) + (2, 1, 255) * 6 + (2,), [], [], 20)

    def test_found_only_when_more_comes(self):
        ear = Ear()
        self.exactly(ear.hear((20, 2, 1, 255)), [])
        self.exactly(seen(ear), ([], [], 4, 4))
        self.exactly(ear.hear((0,) * 16), [])
        self.exactly(seen(ear), ([], [], 20, 20))
        # Now 20 bytes are behind the 20, and no frame: what was waiting behind it is found.
        self.exactly(ear.hear([1]), [SMALL])
        self.exactly(seen(ear), ([SMALL], [1], 0, 21))

    def test_several_are_found_by_one_byte(self):
        ear = Ear()
        self.exactly(ear.hear((20,) + (2, 1, 255) * 6 + (0,)), [])
        self.exactly(ear.hear((2,)), [SMALL] * 6)
        self.exactly(seen(ear), ([SMALL] * 6, [1, 4, 7, 10, 13, 16], 1, 21))
        self.exactly(ear.hear((1, 255)), [SMALL])
        self.exactly(seen(ear), ([SMALL] * 7, [1, 4, 7, 10, 13, 16, 20], 0, 23))

    def test_only_those_that_are_found_now_are_told(self):
        ear = Ear()
        self.exactly(ear.hear((2, 1, 255)), [SMALL])
        self.exactly(ear.hear((2, 2)), [])
        self.exactly(ear.hear((254, 0, 2, 0)), [(2, 254)])
        self.exactly(ear.hear(()), [])
        self.exactly(ear.hear([0]), [(0, 0)])
        self.exactly(seen(ear), ([SMALL, (2, 254), (0, 0)], [0, 3, 7], 0, 10))

    def test_hear_of_nothing(self):
        ear = Ear()
        for row in ((), [], (2, 1), (), [], (255,), ()):
            ahead = seen(ear)
            told = ear.hear(row)
            if not row:
                self.exactly(told, [])
                self.exactly(seen(ear), ahead)
        self.exactly(ear.frames(), [SMALL])

    def test_each_list_is_new(self):
        ear = Ear()
        told = ear.hear((2, 1, 255, 2, 2, 254))
        frames, spots = ear.frames(), ear.spots()
        for one in (told, frames, spots):
            one.append(None)
            one[0] = 7
        self.exactly(seen(ear), ([SMALL, (2, 254)], [0, 3], 0, 6))
        self.assertIsNot(ear.frames(), ear.frames())
        self.assertIsNot(ear.spots(), ear.spots())
        nothing = ear.hear([])
        nothing.append(1)
        self.exactly(ear.hear([]), [])
        self.exactly(ear.frames(), [SMALL, (2, 254)])

    def test_the_list_handed_in_is_as_it_was_and_not_kept(self):
        ear, row = Ear(), [2, 1]
        ear.hear(row)
        self.assertEqual(row, [2, 1])
        row[1] = 9
        row.append(300)
        row.clear()
        self.exactly(ear.hear([255]), [SMALL])
        ear.back()
        ear.back()
        self.exactly(ear.forth(), 2)
        self.exactly(ear.forth(), 1)
        self.exactly(seen(ear), ([SMALL], [0], 0, 3))

    def test_two_ears_go_by_themselves(self):
        one, other = Ear(), Ear()
        one.hear((2, 1, 255))
        self.exactly(seen(other), ([], [], 0, 0))
        other.hear((2,))
        self.exactly(seen(one), ([SMALL], [0], 0, 3))


class HearByChance(Case):

    def test_packed_frames_in_whatever_parts(self):
        chance = random.Random(71)
        for run in range(150):
            frames = [by_chance(chance, chance.choice((2, 5, 19))) for k in range(chance.randint(0, 20))]
            row = packed(frames)
            ear, told = Ear(), []
            for part in in_parts(chance, row):
                told += ear.hear(chance.choice((list, tuple))(part))
            self.exactly(told, frames)
            self.exactly(ear.frames(), frames)
            self.exactly((ear.undecided(), ear.many()), (0, len(row)))

    def test_all_parts_in_two(self):
        frames = [SMALL, (2, 254), (3, 2, 251), (2, 2, 2, 250), (20, 20, 216), GREAT]
        row = packed(frames)
        for at in range(len(row) + 1):
            ear = Ear()
            self.exactly(ear.hear(row[:at]) + ear.hear(row[at:]), frames)

    def test_like_the_model(self):
        chance = random.Random(72)
        for run in range(300):
            few = chance.choice(((0, 2, 254), (2, 3, 253, 251), (0, 1, 2, 20, 21, 255), tuple(range(256))))
            row = tuple(chance.choice(few) for k in range(chance.randint(0, 60)))
            ear, told = Ear(), []
            came = ()
            for part in in_parts(chance, row):
                told += ear.hear(part)
                came += part
                frames, spots, undecided = model(came)
                self.exactly(seen(ear), (frames, spots, undecided, len(came)))
                self.exactly(told, frames)

    def test_packed_frames_with_bytes_ahead_between_and_behind(self):
        chance = random.Random(73)
        for run in range(200):
            row = ()
            for k in range(chance.randint(0, 8)):
                row += tuple(chance.choice((0, 1, 21, 255, 2, 20, chance.randrange(256)))
                             for one in range(chance.randint(0, 4)))
                frame = by_chance(chance, 20)
                if chance.random() < 0.3:
                    at = chance.randrange(len(frame))
                    frame = with_one(frame, at, (frame[at] + chance.randint(1, 255)) % 256)
                row += (len(frame),) + frame
            ear = Ear()
            frames, spots, undecided = model(row)
            self.exactly(ear.hear(row), frames)
            self.exactly(seen(ear), (frames, spots, undecided, len(row)))


class FullEar(Case):

    def test_400_and_401_at_once(self):
        for row in ((0,) * 400, [255] * 400, (2, 1, 255) * 133 + (2,)):
            ear = Ear()
            ear.hear(row)
            self.exactly(ear.many(), 400)
        for many in (401, 402, 1000):
            ear = Ear()
            self.refuses(Full, ear.hear, (0,) * many)
            self.refuses(Full, ear.hear, [2, 1, 255] * 134)
            self.exactly(seen(ear), ([], [], 0, 0))
            self.refuses(NoBack, ear.back)

    def test_the_last_byte(self):
        ear = Ear()
        ear.hear((2, 1, 255) * 133)
        self.refuses(Full, ear.hear, (2, 1))
        self.exactly(seen(ear), ([SMALL] * 133, list(range(0, 399, 3)), 0, 399))
        self.exactly(ear.hear((2,)), [])
        self.exactly((ear.undecided(), ear.many()), (1, 400))
        for row in ((1,), [1], (1, 255), [0] * 400):
            ahead = history(ear)
            self.refuses(Full, ear.hear, row)
            self.exactly(history(ear), ahead)

    def test_nothing_more_comes_to_a_full_ear(self):
        ear = Ear()
        ear.hear((0,) * 400)
        self.exactly(ear.hear([]), [])
        self.exactly(ear.hear(()), [])
        self.exactly(ear.many(), 400)
        self.exactly([ear.back(), ear.back(), ear.back()], [0, 0, 400])

    def test_byte_by_byte(self):
        ear = Ear()
        for k in range(400):
            ear.hear([k % 256])
        self.refuses(Full, ear.hear, [0])
        self.exactly(ear.many(), 400)

    def test_room_again_behind_back(self):
        ear = Ear()
        ear.hear((0,) * 390)
        ear.hear((0,) * 10)
        self.refuses(Full, ear.hear, (0,))
        self.exactly(ear.back(), 10)
        self.refuses(Full, ear.hear, (0,) * 11)
        self.exactly(ear.forth(), 10)
        ear.back()
        self.exactly(ear.hear((0,) * 9), [])
        self.exactly(ear.many(), 399)

    def test_twenty_great_frames_are_too_many(self):
        row = packed([GREAT] * 20)
        self.assertEqual(len(row), 420)
        ear = Ear()
        self.refuses(Full, ear.hear, row)
        self.exactly(ear.hear(packed([GREAT] * 19)), [GREAT] * 19)


class NoBytes(Case):

    def test_any_thing(self):
        ear = Ear()
        ear.hear((2, 1, 255, 2))
        ear.hear((2,))
        ear.back()
        ahead = history(ear)
        for thing in ODD + TRUTHS + ("\x02", b"\x02\x01\xff", {}, {2: 1}, range(3), [256], (-1,), [None], ["2"]):
            if not are_bytes(thing):
                self.refuses(NoFrame, ear.hear, thing)
        self.exactly(history(ear), ahead)
        self.exactly(ear.forth(), 1)

    def test_any_thing_among_bytes(self):
        ear = Ear()
        for thing in ODD:
            if not is_byte(thing):
                for at in range(3):
                    row = with_one((2, 1, 255), at, thing)
                    self.refuses(NoFrame, ear.hear, row)
                    self.refuses(NoFrame, ear.hear, list(row))
        self.exactly(seen(ear), ([], [], 0, 0))
        self.refuses(NoBack, ear.back)

    def test_each_byte(self):
        for byte in range(-3, 260):
            if 0 <= byte <= 255:
                ear = Ear()
                ear.hear([byte])
                self.exactly(ear.many(), 1)
            else:
                self.refuses(NoFrame, Ear().hear, [byte])

    def test_no_frame_ahead_of_full(self):
        ear = Ear()
        for many in (400, 401, 500):
            for wrong in (256, -1, True, None, "0", (0,)):
                self.refuses(NoFrame, ear.hear, [0] * many + [wrong])
                self.refuses(NoFrame, ear.hear, (wrong,) + (0,) * many)
        ear.hear((0,) * 400)
        for wrong in ([True], (256,), None, 5, [[0]], "0"):
            self.refuses(NoFrame, ear.hear, wrong)
        self.exactly(seen(ear), ([], [], 0, 400))


class BackAndForth(Case):

    def test_no_back_at_both_ends(self):
        ear = Ear()
        self.refuses(NoBack, ear.back)
        self.refuses(NoBack, ear.forth)
        ear.hear((2, 1, 255))
        self.refuses(NoBack, ear.forth)
        self.exactly(ear.back(), 3)
        self.refuses(NoBack, ear.back)
        self.exactly(seen(ear), ([], [], 0, 0))
        self.exactly(ear.forth(), 3)
        self.refuses(NoBack, ear.forth)
        self.exactly(seen(ear), ([SMALL], [0], 0, 3))

    def test_through_all_that_came(self):
        parts = ((2, 1), (255,), (), (20, 2, 1, 255), [], (0,) * 16, (1, 2), (2, 254, 9))
        ear = Ear()
        told = [seen(ear)]
        for part in parts:
            ear.hear(part)
            told.append(seen(ear))
        for again in range(2):
            for at in range(len(parts), 0, -1):
                self.exactly(ear.back(), len(parts[at - 1]))
                self.exactly(seen(ear), told[at - 1])
            self.refuses(NoBack, ear.back)
            for at in range(len(parts)):
                self.exactly(ear.forth(), len(parts[at]))
                self.exactly(seen(ear), told[at + 1])
            self.refuses(NoBack, ear.forth)

    def test_a_hear_of_nothing_is_taken_back_too(self):
        ear = Ear()
        ear.hear([])
        self.exactly(ear.back(), 0)
        self.refuses(NoBack, ear.back)
        self.exactly(ear.forth(), 0)
        self.refuses(NoBack, ear.forth)
        ear.hear((5,))
        self.exactly([ear.back(), ear.back()], [1, 0])

    def test_frames_go_and_come_again(self):
        ear = Ear()
        ear.hear((20,) + (2, 1, 255) * 6 + (0,))
        ear.hear((9,))
        self.exactly(ear.frames(), [SMALL] * 6)
        ear.back()
        self.exactly(seen(ear), ([], [], 20, 20))
        ear.forth()
        self.exactly(seen(ear), ([SMALL] * 6, [1, 4, 7, 10, 13, 16], 1, 21))
        ear.back()
        # Another byte makes the 20 behind the first one a frame.
        self.exactly(ear.hear((-6 * 258 % 256,)), [(2, 1, 255) * 6 + (0, 244)])
        self.exactly(ear.spots(), [0])

    def test_forth_behind_another_hear(self):
        for other in ((3,), [], ()):
            ear = Ear()
            ear.hear((2, 1))
            ear.hear((255,))
            ear.back()
            ear.hear(other)
            self.refuses(NoBack, ear.forth)
            self.exactly([ear.back(), ear.back()], [len(other), 2])
            # What was heard last can come again, what was taken back ahead of it can not.
            self.exactly([ear.forth(), ear.forth()], [2, len(other)])
            self.refuses(NoBack, ear.forth)

    def test_forth_in_the_middle(self):
        ear = Ear()
        for many in (1, 2, 3, 4):
            ear.hear((0,) * many)
        self.exactly([ear.back(), ear.back(), ear.back()], [4, 3, 2])
        self.exactly(ear.forth(), 2)
        self.exactly(ear.back(), 2)
        self.exactly([ear.forth(), ear.forth()], [2, 3])
        ear.hear((0,) * 7)
        self.refuses(NoBack, ear.forth)
        self.exactly([ear.back(), ear.back(), ear.back(), ear.back()], [7, 3, 2, 1])
        self.refuses(NoBack, ear.back)

    def test_a_hear_that_is_refused_leaves_what_can_come_again(self):
        ear = Ear()
        ear.hear((2, 1))
        ear.hear((255,))
        ear.back()
        ahead = history(ear)
        self.refuses(NoFrame, ear.hear, [256])
        self.refuses(NoFrame, ear.hear, None)
        self.refuses(Full, ear.hear, (0,) * 399)
        self.exactly(history(ear), ahead)
        self.exactly(ear.forth(), 1)
        self.exactly(ear.frames(), [SMALL])

    def test_asking_leaves_what_can_come_again(self):
        ear = Ear()
        ear.hear((2, 1, 255))
        ear.back()
        seen(ear)
        ear.twin()
        self.refuses(NoBack, ear.back)
        self.exactly(ear.forth(), 3)

    def test_by_chance(self):
        chance = random.Random(74)
        for run in range(60):
            ear, parts, gone = Ear(), [], []
            for step in range(60):
                word = chance.choice(("hear", "hear", "back", "back", "forth", "forth", "twin"))
                if word == "hear":
                    part = tuple(chance.choice((0, 2, 3, 253, 254)) for k in range(chance.randint(0, 5)))
                    ear.hear(part)
                    parts, gone = parts + [part], []
                elif word == "twin":
                    ear = ear.twin()
                else:
                    ahead, behind = (parts, gone) if word == "back" else (gone, parts)
                    if ahead:
                        self.exactly(getattr(ear, word)(), len(ahead[-1]))
                        behind.append(ahead.pop())
                    else:
                        self.refuses(NoBack, getattr(ear, word))
                row = sum(parts, ())
                self.exactly(seen(ear), (*model(row), len(row)))


class Twin(Case):

    def test_as_this_one(self):
        ear = Ear()
        self.exactly(history(ear.twin()), history(ear))
        for part in ((2, 1), (255, 20), (), (3,)):
            ear.hear(part)
            self.exactly(history(ear.twin()), history(ear))
        ear.back()
        ear.back()
        twin = ear.twin()
        self.assertIsInstance(twin, Ear)
        self.assertIsNot(twin, ear)
        self.exactly(seen(twin), seen(ear))
        self.exactly([twin.forth(), twin.forth()], [0, 1])
        self.refuses(NoBack, twin.forth)
        self.exactly([twin.back(), twin.back(), twin.back(), twin.back()], [1, 0, 2, 2])
        self.refuses(NoBack, twin.back)

    def test_each_goes_by_itself(self):
        def one_more(ear):
            ear.hear((7,))

        for change in (one_more, Ear.back, Ear.forth, lambda ear: ear.hear(())):
            for twin_first in (False, True):
                ear = Ear()
                ear.hear((2, 1))
                ear.hear((255, 4))
                ear.hear((9,))
                ear.back()
                twin = ear.twin()
                changed, left = (twin, ear) if twin_first else (ear, twin)
                ahead = history(left)
                change(changed)
                self.exactly(history(left), ahead)
                self.assertNotEqual(history(changed), ahead)

    def test_a_twin_of_a_twin(self):
        ear = Ear()
        ear.hear((2, 1))
        one = ear.twin()
        other = one.twin()
        self.exactly(one.hear((255,)), [SMALL])
        self.exactly(other.hear((254, 2)), [])
        self.exactly(seen(ear), ([], [], 2, 2))
        self.exactly(seen(one), ([SMALL], [0], 0, 3))
        self.exactly(seen(other), ([], [], 1, 4))

    def test_a_full_one(self):
        ear = Ear()
        ear.hear((0,) * 400)
        twin = ear.twin()
        self.refuses(Full, twin.hear, (0,))
        twin.back()
        twin.hear((0,))
        self.refuses(Full, ear.hear, (0,))


if __name__ == "__main__":
    unittest.main()
