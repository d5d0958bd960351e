"""5.1, 5.2 and 0.2 (e): rounds."""

import random
import unittest
from fractions import Fraction

from lineasks.errors import NoNumber
from lineasks.rounds import can_bear, is_table, latest, share, starts
from things import ODD, TRUTHS, is_exactly, with_one

ROW = (1, 1)

NO_TABLES = (
    (), (ROW,) * 7, (ROW,) * 8, [], [ROW], [[1, 1]], ([1, 1],), (ROW, [1, 1]), ROW, (1,), 1, None, "", "11", ("11",),
    ((0, 1),), ((1, 0),), ((100, 1),), ((1, 100),), ((-1, 1),), ((1, -1),), (ROW, (0, 1)), (ROW, (1, 100), ROW),
    ((True, 1),), ((1, True),), ((False, 1),), (ROW, (1, True)), ((1,),), ((1, 1, 1),), ((),), (ROW, ()), (ROW, None),
    ((None, 1),), ((1, None),), (("1", 1),), ((1, "1"),), (((1,), 1),), ((1, [1]),), ((ROW,),), ((ROW, ROW),),
    (((ROW,),),), ((((ROW,),),),), (10 ** 30, 1), ((10 ** 30, 1),), True, False, (True,), ((1, 1), True),
)

NO_UNTILS = (-1, 1000, 1001, -1000, 10 ** 30, None, "", "5", [], [5], (), (5,), ((5,),)) + TRUTHS


def model(table, until):
    """The same, moment by moment."""
    waiting, told, busy = [], [], 0
    for now in range(until):
        waiting += [(now, row) for row, (every, _) in enumerate(table) if now % every == 0]
        if busy == 0 and waiting:
            due, row = min(waiting)
            waiting.remove((due, row))
            told.append((now, row, now - due))
            busy = table[row][1]
        busy = max(busy - 1, 0)
    return told


def tables(seed, many):
    """Tables by chance, of all sizes."""
    chance = random.Random(seed)
    for k in range(many):
        top = chance.choice((3, 12, 99))
        yield tuple((chance.randint(1, top), chance.randint(1, chance.choice((2, top))))
                    for row in range(chance.randint(1, 6)))


class IsTable(unittest.TestCase):

    def test_tables(self):
        for many in range(1, 7):
            for row in (ROW, (99, 99), (1, 99), (99, 1), (50, 7)):
                with self.subTest(many=many, row=row):
                    self.assertIs(is_table((row,) * many), True)

    def test_no_tables(self):
        for thing in NO_TABLES + ODD:
            with self.subTest(repr(thing)):
                self.assertIs(is_table(thing), False)

    def test_each_number(self):
        for number in range(-3, 110):
            self.assertIs(is_table(((number, 5),)), 1 <= number <= 99)
            self.assertIs(is_table(((5, number),)), 1 <= number <= 99)

    def test_any_thing_within(self):
        for thing in ODD:
            for at in range(3):
                self.assertIs(is_table(with_one((ROW,) * 3, at, thing)), False)
            if not (type(thing) is int and 1 <= thing <= 99):
                self.assertIs(is_table(((thing, 1),)), False)
                self.assertIs(is_table((ROW, (1, thing))), False)


class Starts(unittest.TestCase):

    def told(self, table, until, *wanted):
        self.assertTrue(is_exactly(starts(table, until), list(wanted)), starts(table, until))

    def test_one_row(self):
        self.told(((5, 2),), 16, (0, 0, 0), (5, 0, 0), (10, 0, 0), (15, 0, 0))
        self.told(((5, 5),), 15, (0, 0, 0), (5, 0, 0), (10, 0, 0))

    def test_until(self):
        self.told(((5, 2),), 0)
        self.told(((5, 2),), 1, (0, 0, 0))
        self.told(((5, 2),), 5, (0, 0, 0))
        self.told(((5, 2),), 6, (0, 0, 0), (5, 0, 0))
        self.assertEqual(starts(((1, 1),), 999), [(k, 0, 0) for k in range(999)])
        self.assertEqual(starts(((99, 99),) * 6, 999), [(99 * k, k % 6, 99 * (k - k // 6)) for k in range(11)])

    def test_an_ask_that_begins_ahead_and_ends_behind(self):
        self.told(((99, 99),), 1, (0, 0, 0))
        self.told(((10, 7), (10, 7)), 8, (0, 0, 0), (7, 1, 7))
        self.told(((10, 7), (10, 7)), 7, (0, 0, 0))

    def test_rows_that_are_due_at_once(self):
        self.told(((10, 2), (10, 3), (10, 1)), 13, (0, 0, 0), (2, 1, 2), (5, 2, 5), (10, 0, 0), (12, 1, 2))
        self.told(((4, 1), (6, 1)), 13, (0, 0, 0), (1, 1, 1), (4, 0, 0), (6, 1, 0), (8, 0, 0), (12, 0, 0))
        self.told(((6, 1), (4, 1)), 14, (0, 0, 0), (1, 1, 1), (4, 1, 0), (6, 0, 0), (8, 1, 0), (12, 0, 0), (13, 1, 1))

    def test_the_earliest_due_comes_ahead_of_the_first_row(self):
        self.told(((4, 3), (5, 3)), 14, (0, 0, 0), (3, 1, 3), (6, 0, 2), (9, 1, 4), (12, 0, 4))
        self.told(((9, 1), (3, 2), (4, 2)), 12, (0, 0, 0), (1, 1, 1), (3, 2, 3), (5, 1, 2), (7, 2, 3), (9, 1, 3),
                  (11, 2, 3))

    def test_a_table_that_the_line_cannot_bear(self):
        self.told(((1, 2),), 9, (0, 0, 0), (2, 0, 1), (4, 0, 2), (6, 0, 3), (8, 0, 4))
        self.told(((1, 99),), 200, (0, 0, 0), (99, 0, 98), (198, 0, 196))
        self.told(((2, 2), (2, 2)), 9, (0, 0, 0), (2, 1, 2), (4, 0, 2), (6, 1, 4), (8, 0, 4))

    def test_six_rows(self):
        self.told(((6, 1),) * 6, 8, (0, 0, 0), (1, 1, 1), (2, 2, 2), (3, 3, 3), (4, 4, 4), (5, 5, 5), (6, 0, 0),
                  (7, 1, 1))

    def test_like_the_model(self):
        for k, table in enumerate(tables(51, 400)):
            until = (0, 1, 2, 40, 200, 999)[k % 6]
            with self.subTest(table=table, until=until):
                self.assertEqual(starts(table, until), model(table, until))

    def test_no_two_at_once_and_none_ahead_of_its_moment(self):
        for table in tables(52, 100):
            free, begun = 0, {}
            for start, row, late in starts(table, 500):
                self.assertGreaterEqual(start, free)
                self.assertGreaterEqual(late, 0)
                self.assertEqual(start - late, begun.get(row, 0) * table[row][0])
                begun[row] = begun.get(row, 0) + 1
                free = start + table[row][1]

    def test_each_list_is_new(self):
        table = ((5, 2), (7, 3))
        told = starts(table, 30)
        wanted = list(told)
        told.append(None)
        told[0] = 1
        self.assertEqual(starts(table, 30), wanted)
        self.assertIsNot(starts(table, 30), starts(table, 30))
        empty = starts(table, 0)
        empty.append(1)
        self.assertEqual(starts(table, 0), [])
        self.assertEqual(latest(table, 30), max(late for start, row, late in wanted))


class Latest(unittest.TestCase):

    def test_the_greatest(self):
        for table, until, wanted in (
                (((5, 2),), 16, 0), (((5, 2),), 0, 0), (((5, 2),), 1, 0), (((10, 2), (10, 3), (10, 1)), 13, 5),
                (((10, 2), (10, 3), (10, 1)), 5, 2), (((10, 2), (10, 3), (10, 1)), 6, 5), (((1, 2),), 9, 4),
                (((1, 99),), 199, 196), (((1, 99),) * 6, 0, 0), (((99, 99), (99, 1)), 999, 107)):
            with self.subTest(table=table, until=until):
                self.assertTrue(is_exactly(latest(table, until), wanted), latest(table, until))

    def test_the_greatest_may_stand_ahead_of_others(self):
        table = ((20, 9), (20, 1), (5, 1))
        lates = [late for start, row, late in starts(table, 20)]
        self.assertEqual(latest(table, 20), max(lates))
        self.assertNotEqual(lates[-1], max(lates))

    def test_like_the_model(self):
        for k, table in enumerate(tables(53, 200)):
            until = (0, 1, 2, 40, 200, 999)[k % 6]
            self.assertEqual(latest(table, until), max([one[2] for one in model(table, until)] + [0]))


class Share(unittest.TestCase):

    def test_in_lowest_terms(self):
        for table, wanted in (
                (((5, 2),), (2, 5)), (((10, 4),), (2, 5)), (((1, 1),), (1, 1)), (((99, 99),), (1, 1)),
                (((99, 1),), (1, 99)), (((1, 99),), (99, 1)), (((2, 6),), (3, 1)), (((2, 1), (2, 1)), (1, 1)),
                (((2, 1), (3, 1)), (5, 6)), (((2, 1), (3, 1), (6, 1)), (1, 1)), (((4, 1), (4, 1)), (1, 2)),
                (((1, 99),) * 6, (594, 1)), (((99, 1),) * 6, (2, 33)), (((3, 2), (3, 2)), (4, 3)),
                (((97, 1), (89, 1)), (186, 8633))):
            with self.subTest(table):
                self.assertTrue(is_exactly(share(table), wanted), share(table))

    def test_like_fractions(self):
        for table in tables(54, 400):
            whole = sum(Fraction(long, every) for every, long in table)
            self.assertTrue(is_exactly(share(table), (whole.numerator, whole.denominator)))
            self.assertIs(can_bear(table), whole <= 1)


class CanBear(unittest.TestCase):

    def test_just_1_and_a_little_more(self):
        for table, wanted in (
                (((1, 1),), True), (((99, 99),), True), (((99, 98),), True), (((98, 99),), False), (((1, 2),), False),
                (((2, 1), (2, 1)), True), (((2, 1), (3, 1), (6, 1)), True), (((2, 1), (3, 1), (5, 1)), False),
                (((6, 1),) * 6, True), (((6, 1),) * 5 + ((5, 1),), False), (((99, 1), (99, 98)), True),
                (((99, 1), (98, 97)), True), (((98, 1), (99, 98)), False), (((1, 1), (99, 1)), False)):
            with self.subTest(table):
                self.assertIs(can_bear(table), wanted)


class Refused(unittest.TestCase):

    def refuses(self, action, *given):
        with self.assertRaises(NoNumber) as caught:
            action(*given)
        self.assertIs(type(caught.exception), NoNumber)

    def test_no_table(self):
        for thing in NO_TABLES + ODD:
            with self.subTest(repr(thing)):
                for until in (0, 5, 999):
                    self.refuses(starts, thing, until)
                    self.refuses(latest, thing, until)
                self.refuses(share, thing)
                self.refuses(can_bear, thing)

    def test_no_until(self):
        for until in NO_UNTILS:
            with self.subTest(repr(until)):
                self.refuses(starts, (ROW,), until)
                self.refuses(latest, (ROW,), until)
        for thing in ODD:
            if not (type(thing) is int and 0 <= thing <= 999):
                with self.subTest(repr(thing)):
                    self.refuses(starts, (ROW,), thing)
                    self.refuses(latest, (ROW,), thing)

    def test_both(self):
        self.refuses(starts, [], None)
        self.refuses(latest, (), -1)

    def test_lists_handed_in_are_as_they_were(self):
        thing = [[1, 1], [2, 2]]
        for action in (is_table, lambda one: self.refuses(starts, one, 5), lambda one: self.refuses(latest, one, 5),
                       lambda one: self.refuses(share, one), lambda one: self.refuses(can_bear, one)):
            action(thing)
            self.assertEqual(thing, [[1, 1], [2, 2]])

    def test_the_same_again(self):
        table = ((3, 1), (4, 2))
        for action in (is_table, share, can_bear, lambda one: starts(one, 50), lambda one: latest(one, 50)):
            self.assertEqual(action(table), action(table))
        self.assertEqual(table, ((3, 1), (4, 2)))


if __name__ == "__main__":
    unittest.main()
