"""9.1, 9.2 and 0.2 (h): reads and writes with the fewest bytes."""

import itertools
import random
import unittest

from lineasks.asks import answer_frame, ask_frame
from lineasks.errors import NoNumber
from lineasks.plans import cheapest_reads, cheapest_writes, read_bytes, reads_for
from lineasks.stations import Station
from things import ODD, TRUTHS, is_exactly, with_one

ALL = tuple(range(16))


def all_wanted():
    """All rising tuples of places from 0 to 15."""
    for bits in range(1 << 16):
        yield tuple(place for place in range(16) if bits >> place & 1)


def some_wanted(seed, many):
    """Wanted places by chance, of all sizes, and the ends of what there is."""
    chance = random.Random(seed)
    yield from ((), (0,), (15,), (0, 15), ALL, tuple(range(8)), tuple(range(9)), (0, 7), (0, 8))
    for k in range(many):
        part = chance.random()
        yield tuple(place for place in range(16) if chance.random() < part)


def all_lists(wanted):
    """All lists of runs as cheapest_reads tells one: by where each two neighbours are parted or not."""
    if not wanted:
        return [[]]
    told = []
    for cuts in itertools.product((False, True), repeat=len(wanted) - 1):
        groups = [[wanted[0]]]
        for cut, place in zip(cuts, wanted[1:]):
            if cut:
                groups.append([place])
            else:
                groups[-1].append(place)
        if all(group[-1] - group[0] < 8 for group in groups):
            told.append([(group[0], group[-1] - group[0] + 1) for group in groups])
    return told


def cheapest(wanted, beside):
    """The cheapest of all lists, of several the first one."""
    def taken(runs):
        return sum(beside + many for at, many in runs)
    lists = sorted(all_lists(wanted))
    return min(lists, key=taken)


def covered(runs):
    """All places that runs have."""
    return [place for at, many in runs for place in range(at, at + many)]


def is_wanted(thing):
    return (type(thing) is tuple and all(type(one) is int and 0 <= one <= 15 for one in thing)
            and all(one < other for one, other in zip(thing, thing[1:])))


NO_WANTED = (
    [], [0], [0, 1], (16,), (-1,), (0, 16), (-1, 0), (1, 0), (0, 0), (5, 5), (0, 2, 1), (0, 1, 1), (15, 16), ALL + (16,),
    ALL[::-1], (True,), (False,), (0, True), (None,), ("0",), ((0,),), (0, (1,)), ([0],), "", "0", None, 0, 5, 10 ** 30,
    (10 ** 30,), (0, None), (0, "1"), True, False, [[]], ((),), {}, {0: 1}, range(3), b"\x00\x01",
)


class Case(unittest.TestCase):

    def refuses(self, action, *given):
        with self.subTest(repr(given)[:200]):
            with self.assertRaises(NoNumber) as caught:
                action(*given)
            self.assertIs(type(caught.exception), NoNumber)

    def exactly(self, told, wanted):
        self.assertTrue(is_exactly(told, wanted), f"{told!r}, not {wanted!r}")


class ReadsFor(Case):

    def test_nothing_wanted(self):
        for most in range(1, 9):
            self.exactly(reads_for((), most), [])

    def test_all_places(self):
        self.exactly(reads_for(ALL, 1), [(place, 1) for place in ALL])
        self.exactly(reads_for(ALL, 3), [(0, 3), (3, 3), (6, 3), (9, 3), (12, 3), (15, 1)])
        self.exactly(reads_for(ALL, 7), [(0, 7), (7, 7), (14, 2)])
        self.exactly(reads_for(ALL, 8), [(0, 8), (8, 8)])

    def test_as_told(self):
        self.exactly(reads_for((3,), 8), [(3, 1)])
        self.exactly(reads_for((0, 7), 8), [(0, 8)])
        self.exactly(reads_for((0, 8), 8), [(0, 1), (8, 1)])
        self.exactly(reads_for((0, 7), 7), [(0, 1), (7, 1)])
        self.exactly(reads_for((0, 6), 7), [(0, 7)])
        self.exactly(reads_for((0, 2, 5, 9, 10, 15), 4), [(0, 3), (5, 1), (9, 2), (15, 1)])
        self.exactly(reads_for((0, 2, 5, 9, 10, 15), 6), [(0, 6), (9, 2), (15, 1)])
        self.exactly(reads_for((1, 3, 4, 6), 2), [(1, 1), (3, 2), (6, 1)])
        self.exactly(reads_for((15,), 1), [(15, 1)])
        self.exactly(reads_for((14, 15), 8), [(14, 2)])
        # A run ends with a place wanted, and does not reach on to where none is.
        self.exactly(reads_for((0, 1, 12), 8), [(0, 2), (12, 1)])

    def test_by_words(self):
        for wanted in some_wanted(91, 300):
            for most in range(1, 9):
                left, runs = list(wanted), []
                while left:
                    at = left[0]
                    had = [place for place in left if place <= at + most - 1]
                    runs.append((at, had[-1] - at + 1))
                    left = left[len(had):]
                self.exactly(reads_for(wanted, most), runs)

    def test_none_have_fewer_runs(self):
        for wanted in itertools.chain(*(itertools.combinations(range(9), many) for many in range(7))):
            for most in (1, 2, 3, 8):
                lists = [one for one in all_lists(wanted) if all(many <= most for at, many in one)]
                told = reads_for(wanted, most)
                self.assertEqual(len(told), min(map(len, lists)))
                self.assertIn(told, lists)

    def test_most(self):
        for most in range(-3, 12):
            if 1 <= most <= 8:
                self.exactly(reads_for((4,), most), [(4, 1)])
            else:
                self.refuses(reads_for, (4,), most)
                self.refuses(reads_for, (), most)
        for thing in ODD + TRUTHS:
            if not (type(thing) is int and 1 <= thing <= 8):
                self.refuses(reads_for, (4,), thing)

    def test_no_wanted(self):
        for thing in NO_WANTED:
            for most in (1, 8):
                self.refuses(reads_for, thing, most)
            self.refuses(reads_for, thing, None)
        for thing in ODD:
            if not is_wanted(thing):
                self.refuses(reads_for, thing, 8)

    def test_each_list_is_new(self):
        for wanted in ((), (0, 5)):
            told = reads_for(wanted, 2)
            ahead = list(told)
            told.append(None)
            self.exactly(reads_for(wanted, 2), ahead)


class CheapestReads(Case):

    def test_as_told(self):
        self.exactly(cheapest_reads(()), [])
        self.exactly(cheapest_reads((9,)), [(9, 1)])
        self.exactly(cheapest_reads((0, 15)), [(0, 1), (15, 1)])
        self.exactly(cheapest_reads((0, 7)), [(0, 8)])
        self.exactly(cheapest_reads((0, 8)), [(0, 1), (8, 1)])
        self.exactly(cheapest_reads(ALL), [(0, 8), (8, 8)])

    def test_more_runs_may_take_fewer_bytes(self):
        # Two runs take 20 + 16, three take 30 + 4.
        self.exactly(reads_for((0, 7, 8, 15), 8), [(0, 8), (8, 8)])
        self.exactly(cheapest_reads((0, 7, 8, 15)), [(0, 1), (7, 2), (15, 1)])

    def test_of_several_the_first_one(self):
        # [(0, 8), (8, 8)] takes 36 bytes too.
        self.exactly(cheapest_reads((0, 7, 8, 13, 14, 15)), [(0, 1), (7, 2), (13, 3)])
        self.exactly(cheapest_reads(tuple(range(9))), [(0, 1), (1, 8)])
        self.exactly(cheapest_reads(tuple(range(10))), [(0, 2), (2, 8)])

    def test_like_a_search_over_all(self):
        for wanted in some_wanted(92, 250):
            if len(wanted) <= 11:
                self.exactly(cheapest_reads(wanted), cheapest(wanted, 10))
        for wanted in itertools.chain(*(itertools.combinations((0, 1, 4, 6, 7, 8, 9, 11, 14, 15), many)
                                        for many in range(11))):
            self.exactly(cheapest_reads(wanted), cheapest(wanted, 10))

    def test_like_a_search_over_all_of_many_places(self):
        for wanted in (ALL, ALL[:5] + ALL[6:], ALL[1:15]):
            self.exactly(cheapest_reads(wanted), cheapest(wanted, 10))

    def test_no_runs_at_all_take_fewer_bytes(self):
        runs = [(at, many) for at in range(16) for many in range(1, 9) if at + many <= 16]
        for wanted in some_wanted(95, 60):
            if len(wanted) <= 7:
                # The fewest bytes for each part of what is wanted, by runs of any kind, in any number.
                fewest = {frozenset(): 0}
                for again in wanted:
                    for had, taken in list(fewest.items()):
                        for at, many in runs:
                            more = had | {place for place in wanted if at <= place < at + many}
                            fewest[more] = min(fewest.get(more, 999), taken + 10 + many)
                self.assertEqual(read_bytes(cheapest_reads(wanted)), fewest[frozenset(wanted)])

    def test_all_wanted_are_read(self):
        for wanted in itertools.islice(all_wanted(), 0, None, 37):
            told = cheapest_reads(wanted)
            places = covered(told)
            self.assertEqual(places, sorted(set(places)))
            self.assertLessEqual(set(wanted), set(places))
            for at, many in told:
                self.assertTrue(1 <= many <= 8 and at in wanted and at + many - 1 in wanted)
            for most in range(1, 9):
                self.assertLessEqual(read_bytes(told), read_bytes(reads_for(wanted, most)))

    def test_no_wanted(self):
        for thing in NO_WANTED:
            self.refuses(cheapest_reads, thing)
        for thing in ODD:
            if is_wanted(thing):
                self.assertIsInstance(cheapest_reads(thing), list)
            else:
                self.refuses(cheapest_reads, thing)

    def test_each_place(self):
        for place in range(-3, 20):
            if 0 <= place <= 15:
                self.exactly(cheapest_reads((place,)), [(place, 1)])
            else:
                self.refuses(cheapest_reads, (place,))

    def test_each_list_is_new(self):
        for wanted in ((), (0, 5), ALL):
            told = cheapest_reads(wanted)
            ahead = list(told)
            told.append(None)
            self.exactly(cheapest_reads(wanted), ahead)


class ReadBytes(Case):

    def test_as_told(self):
        self.exactly(read_bytes([]), 0)
        self.exactly(read_bytes([(0, 1)]), 11)
        self.exactly(read_bytes([(0, 8)]), 18)
        self.exactly(read_bytes([(15, 1)]), 11)
        self.exactly(read_bytes([(8, 8)]), 18)
        self.exactly(read_bytes([(0, 3), (5, 1), (9, 2)]), 36)

    def test_places_in_common_and_in_any_order(self):
        self.exactly(read_bytes([(0, 3), (0, 3)]), 26)
        self.exactly(read_bytes([(9, 2), (0, 8), (4, 8)]), 48)
        self.exactly(read_bytes([(8, 8)] * 40), 720)

    def test_as_many_as_the_frames_have(self):
        for many in range(1, 9):
            to = ask_frame(("read", 1, 0, 0, many))
            fro = answer_frame(("values", 1, 0, (0,) * many))
            self.exactly(read_bytes([(0, many)]), len(to) + len(fro))

    def test_each_run(self):
        for at in range(-2, 20):
            for many in range(-2, 20):
                if at >= 0 and 1 <= many <= 8 and at + many <= 16:
                    self.exactly(read_bytes([(at, many)]), 10 + many)
                else:
                    self.refuses(read_bytes, [(at, many)])
                    self.refuses(read_bytes, [(0, 1), (at, many)])

    def test_no_runs(self):
        for thing in ((), ((0, 1),), (0, 1), [0, 1], [[0, 1]], [(0,)], [(0, 1, 1)], [()], [None], ["01"], [(True, 1)],
                      [(0, True)], [(False, 1)], [(0, 1), None], [(0, 1), [1, 1]], [((0, 1),)], [[(0, 1)]], None, "", {},
                      0, [("0", 1)], [(0, "1")], [(None, 1)], [(0, None)], [((0,), 1)], [(0, [1])], [0], [""],
                      {(0, 1): 1}, range(0), [(10 ** 30, 1)], [(0, 10 ** 30)], [(-10 ** 30, 8)]) + TRUTHS:
            self.refuses(read_bytes, thing)

    def test_any_thing(self):
        for thing in ODD:
            if thing != []:
                self.refuses(read_bytes, thing)
            if thing not in ((0, 1), (15, 1)):
                self.refuses(read_bytes, [thing])
                self.refuses(read_bytes, [(0, 1), thing, (1, 1)])
            if not (type(thing) is int and 0 <= thing <= 15):
                self.refuses(read_bytes, [(thing, 1)])
            if not (type(thing) is int and 1 <= thing <= 8):
                self.refuses(read_bytes, [(0, thing)])

    def test_the_list_is_as_it_was(self):
        for thing in ([(0, 1), (5, 2)], [(0, 1), [5]]):
            ahead = repr(thing)
            try:
                read_bytes(thing)
            except NoNumber:
                pass
            self.assertEqual(repr(thing), ahead)


class CheapestWrites(Case):

    def test_alike(self):
        for many in range(1, 17):
            for byte in (0, 255):
                self.exactly(cheapest_writes((byte,) * many, (byte,) * many), [])

    def test_unlike_at_all_places(self):
        new = tuple(range(1, 17))
        self.exactly(cheapest_writes((0,) * 16, new), [(0, new[:8]), (8, new[8:])])
        self.exactly(cheapest_writes((0,) * 8, new[:8]), [(0, new[:8])])
        self.exactly(cheapest_writes((0,) * 9, new[:9]), [(0, (1,)), (1, new[1:9])])
        self.exactly(cheapest_writes((0,), (7,)), [(0, (7,))])

    def test_as_told(self):
        self.exactly(cheapest_writes((1, 2, 3, 4), (1, 9, 3, 8)), [(1, (9, 3, 8))])
        self.exactly(cheapest_writes((0, 0), (0, 255)), [(1, (255,))])
        self.exactly(cheapest_writes((5,) + (0,) * 15, (6,) + (0,) * 14 + (7,)), [(0, (6,)), (15, (7,))])

    def test_of_several_the_first_one(self):
        # [(0, 8), (8, 8)] takes 9 + 8 + 9 + 8 bytes, and so do these three: 27 + 7.
        told = cheapest_writes((0,) * 16, (1, 0, 0, 0, 0, 0, 0, 2, 3, 0, 0, 0, 4, 5, 6, 7))
        self.exactly(told, [(0, (1,)), (7, (2, 3)), (12, (4, 5, 6, 7))])
        # With 10 bytes for each, as a read takes, two runs are cheaper here.
        self.exactly(cheapest_reads((0, 7, 8, 12, 13, 14, 15)), [(0, 8), (8, 8)])

    def test_like_a_search_over_all(self):
        chance = random.Random(93)
        for run in range(400):
            many = chance.randint(1, 16)
            part = chance.random()
            old = tuple(chance.randrange(256) for k in range(many))
            new = tuple(chance.randrange(256) if chance.random() < part else byte for byte in old)
            wanted = tuple(at for at in range(many) if old[at] != new[at])
            if len(wanted) <= 11:
                runs = cheapest(wanted, 9)
                self.exactly(cheapest_writes(old, new), [(at, new[at:at + long]) for at, long in runs])

    def test_like_a_search_over_all_of_ten_places(self):
        places = (0, 1, 4, 6, 7, 8, 9, 11, 14, 15)
        for wanted in itertools.chain(*(itertools.combinations(places, many) for many in range(11))):
            new = tuple(1 if place in wanted else 0 for place in range(16))
            runs = cheapest(wanted, 9)
            self.exactly(cheapest_writes((0,) * 16, new), [(at, new[at:at + long]) for at, long in runs])

    def test_from_old_to_new(self):
        chance = random.Random(94)
        for run in range(200):
            many = chance.randint(1, 16)
            old, new = [tuple(chance.randrange(3) for k in range(many)) for two in range(2)]
            station = Station(1, old, ())
            for number, (at, values) in enumerate(cheapest_writes(old, new)):
                frame = ask_frame(("write", 1, number, at, values))
                told = station.take(frame)
                self.assertEqual(len(frame) + len(told), 9 + len(values))
            self.assertEqual(station.places(), new)

    def test_how_many(self):
        for one in range(20):
            for other in range(20):
                if one == other and 1 <= one <= 16:
                    self.exactly(cheapest_writes((0,) * one, (0,) * other), [])
                else:
                    self.refuses(cheapest_writes, (0,) * one, (0,) * other)
                    self.refuses(cheapest_writes, (0,) * one, (1,) * other)

    def test_no_bytes(self):
        for wrong in ((), [], [0, 0], (0, 256), (-1, 0), (0, True), (False, 0), (0, None), ("0", 0), "00", None, 0, True,
                      ((0,), 0), (0,) * 17, b"\x00\x00", range(2), {}):
            self.refuses(cheapest_writes, wrong, (0, 0))
            self.refuses(cheapest_writes, (0, 0), wrong)
            self.refuses(cheapest_writes, wrong, wrong)

    def test_any_thing(self):
        for thing in ODD + TRUTHS:
            right = type(thing) is tuple and all(type(one) is int and 0 <= one <= 255 for one in thing)
            if not right or not thing:
                self.refuses(cheapest_writes, thing, thing)
                self.refuses(cheapest_writes, (0, 0), thing)
                self.refuses(cheapest_writes, thing, (0, 0))
            if not (type(thing) is int and 0 <= thing <= 255):
                for at in range(2):
                    self.refuses(cheapest_writes, with_one((0, 0), at, thing), (0, 0))
                    self.refuses(cheapest_writes, (0, 0), with_one((0, 0), at, thing))

    def test_each_list_is_new(self):
        for old, new in (((0,), (0,)), ((0, 1), (1, 0))):
            told = cheapest_writes(old, new)
            ahead = list(told)
            told.append(None)
            self.exactly(cheapest_writes(old, new), ahead)


if __name__ == "__main__":
    unittest.main()
