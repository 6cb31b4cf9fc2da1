"""Rows that tell lots apart, parted lots and framed keys against counting by hand, and how few rows both bounds let."""

import unittest
from fractions import Fraction
from itertools import combinations, product
from math import comb, prod

from seedtables.apart import apart_share, blind_lot, framed, is_apart_up_to, is_parted, rows_let
from tests.by_hand import all_lots, at, is_even, lots, pair
from tests.samples import GREAT, MIXED, STRONG, all_tables, mixed_table

TABLES = MIXED + tuple((marks, table) for marks, table, _ in STRONG)
SMALL = tuple((marks, table) for marks, table in TABLES if len(table[0]) <= 4)


def tells_apart(row, lot):
    return all(row[one] != row[two] for one, two in combinations(lot, 2))


def parts(row, lot, other):
    return all(row[one] != row[two] for one in lot for two in other)


def figures(marks, keys, many):
    """As many rows as told, with the figures of the keys."""
    return tuple(tuple(key // marks ** place % marks for key in range(keys)) for place in range(many))


class Apart(unittest.TestCase):
    def test_share_of_rows_counted_by_hand(self):
        for marks, table in TABLES + GREAT:
            for lot in all_lots(len(table[0])):
                rows = [row for row in table if tells_apart(row, lot)]
                self.assertEqual(apart_share(marks, table, lot), pair(Fraction(len(rows), len(table))))

    def test_lots_of_no_more_than_one_key(self):
        for marks, table in TABLES:
            self.assertEqual(apart_share(marks, table, ()), (1, 1))
            for key in range(len(table[0])):
                self.assertEqual(apart_share(marks, table, (key,)), (1, 1))

    def test_more_keys_than_marks(self):
        for marks, table in TABLES + GREAT:
            for lot in all_lots(len(table[0])):
                if len(lot) > marks:
                    self.assertEqual(apart_share(marks, table, lot), (0, 1))

    def test_even_tables_tell_apart_by_just_so_many_rows(self):
        seen = 0
        for marks, table in TABLES:
            for lot in all_lots(len(table[0])):
                if is_even(marks, table, lot):
                    ways = prod(marks - place for place in range(len(lot)))
                    self.assertEqual(apart_share(marks, table, lot), pair(Fraction(ways, marks ** len(lot))))
                    seen += len(lot) > 1
        self.assertGreater(seen, 100)

    def test_first_lot_that_no_row_tells_apart(self):
        blind = {True: 0, False: 0}
        for marks, table in TABLES + GREAT:
            for size in range(1, len(table[0]) + 1):
                told = [lot for lot in lots(len(table[0]), size) if not any(tells_apart(row, lot) for row in table)]
                self.assertEqual(blind_lot(marks, table, size), min(told, default=None))
                self.assertIs(is_apart_up_to(marks, table, size), told == [])
                blind[told == []] += 1
        self.assertGreater(min(blind.values()), 50)

    def test_all_small_tables(self):
        for marks, keys, rows in ((2, 3, 2), (3, 3, 1), (3, 2, 2), (2, 2, 3)):
            for table in all_tables(marks, keys, rows):
                for size in range(1, keys + 1):
                    told = [lot for lot in lots(keys, size) if not any(tells_apart(row, lot) for row in table)]
                    self.assertEqual(blind_lot(marks, table, size), min(told, default=None))

    def test_first_lot_is_not_the_only_one(self):
        self.assertEqual(blind_lot(2, ((0, 1, 1, 0), (0, 1, 0, 0)), 2), (0, 3))
        self.assertEqual(blind_lot(2, ((0, 1, 0, 1),), 2), (0, 2))
        self.assertEqual(blind_lot(2, ((0, 1, 0, 1),), 3), (0, 1, 2))
        self.assertEqual(blind_lot(3, ((0, 1, 2, 2),), 3), (0, 2, 3))
        self.assertIsNone(blind_lot(2, ((0,),), 1))
        self.assertIsNone(blind_lot(5, ((0, 1, 2, 3, 4),), 5))


class Parted(unittest.TestCase):
    def test_counted_by_hand(self):
        for marks, table in SMALL:
            every = all_lots(len(table[0]))
            for lot, other in product(every, repeat=2):
                if not set(lot) & set(other):
                    expected = any(parts(row, lot, other) for row in table)
                    self.assertIs(is_parted(marks, table, lot, other), expected)
                    self.assertIs(is_parted(marks, table, other, lot), expected)

    def test_great_tables(self):
        for marks, table in GREAT + ((2, mixed_table(2, 8, 3, 1)), (3, mixed_table(3, 8, 2, 1))):
            halves, all_but_2 = ((0, 1, 2, 3), (4, 5, 6, 7)), ((2,), (0, 1, 3, 4, 5, 6, 7))
            for lot, other in (((0,), (7,)), halves, all_but_2, ((1, 6), (0, 3))):
                expected = any(parts(row, lot, other) for row in table)
                self.assertIs(is_parted(marks, table, lot, other), expected)

    def test_no_key_is_parted_from_all_lots(self):
        for marks, table in SMALL:
            for lot in all_lots(len(table[0])):
                self.assertIs(is_parted(marks, table, lot, ()), True)
                self.assertIs(is_parted(marks, table, (), lot), True)


class Framed(unittest.TestCase):
    def pairs(self, table, size):
        keys = range(len(table[0]))
        return [
            (key, lot) for key in keys for lot in lots(len(table[0]), size)
            if key not in lot and all(row[key] in at(row, lot) for row in table)
        ]

    def test_counted_by_hand(self):
        some = {True: 0, False: 0}
        for marks, table in TABLES + GREAT:
            for size in range(1, len(table[0])):
                told, expected = framed(marks, table, size), self.pairs(table, size)
                some[expected == []] += 1
                if told is None:
                    self.assertEqual(expected, [])
                else:
                    self.assertIs(type(told), tuple)
                    self.assertIn(told, expected)
                    self.assertIs(is_parted(marks, table, told[:1], told[1]), False)
        self.assertGreater(min(some.values()), 20)

    def test_all_small_tables(self):
        for marks, keys, rows in ((2, 3, 2), (3, 3, 1), (3, 2, 2), (2, 4, 1)):
            for table in all_tables(marks, keys, rows):
                for size in range(1, keys):
                    told, expected = framed(marks, table, size), self.pairs(table, size)
                    self.assertIs(told is None, expected == [])
                    if told is not None:
                        self.assertIn(told, expected)

    def test_lots_that_frame_frame_with_more_keys(self):
        for marks, table in TABLES:
            told = [framed(marks, table, size) is None for size in range(1, len(table[0]))]
            self.assertEqual(told, sorted(told, reverse=True))

    def test_not_the_first_key(self):
        self.assertIn(framed(3, ((0, 1, 1),), 1), ((1, (2,)), (2, (1,))))
        self.assertIsNone(framed(3, ((0, 1, 2),), 2))
        # Key 0 has the mark of key 2, then that of key 1; these two are never as another key is in both rows.
        self.assertEqual(framed(2, ((0, 1, 0), (1, 1, 0)), 2), (0, (1, 2)))
        self.assertIsNone(framed(2, ((0, 1, 0), (1, 1, 0)), 1))


class Bounds(unittest.TestCase):
    """Both bounds hold for all tables."""

    def test_tables_apart(self):
        seen = 0
        for marks, table in TABLES + GREAT:
            keys, rows = len(table[0]), len(table)
            for size in range(2, keys + 1):
                if is_apart_up_to(marks, table, size):
                    seen += 1
                    longest = -(-rows // (size - 1))
                    self.assertLessEqual(keys, (size - 1) * marks ** longest)
                    if size <= 5:
                        self.assertGreaterEqual(rows, rows_let(marks, keys, size))
        self.assertGreater(seen, 30)

    def test_tables_without_framed_keys(self):
        seen = 0
        for marks, table in TABLES + GREAT:
            keys, rows = len(table[0]), len(table)
            for size in range(1, keys):
                if framed(marks, table, size) is None:
                    seen += 1
                    self.assertLessEqual(keys, size * marks ** -(-rows // size))
        self.assertGreater(seen, 30)

    def test_as_many_rows_as_the_first_bound_asks_do_for_two_keys(self):
        for marks, keys in product((2, 3, 4, 5), range(2, 9)):
            many = rows_let(marks, keys, 2)
            self.assertIs(is_apart_up_to(marks, figures(marks, keys, many), 2), True)
            if many > 1:
                self.assertIs(is_apart_up_to(marks, figures(marks, keys, many - 1), 2), False)

    def test_all_tables_with_one_row_less_are_not_apart(self):
        for marks, keys, size in ((2, 3, 2), (2, 4, 2), (3, 4, 2), (3, 4, 3), (2, 5, 2)):
            rows = rows_let(marks, keys, size) - 1
            if rows:
                few = all_tables(marks, keys, rows)
                self.assertFalse(any(is_apart_up_to(marks, table, size) for table in few))


class RowsLet(unittest.TestCase):
    def lots_of_a_row(self, marks, keys, size):
        """How many lots a row tells apart in which the keys are dealt out evenly, by the products of their numbers."""
        whole, rest = divmod(keys, marks)
        numbers = [whole + (mark < rest) for mark in range(marks)]
        return sum(prod(chosen) for chosen in combinations(numbers, size))

    def least(self, marks, keys, size):
        """The first number of rows, from 1 on, that both bounds let."""
        if size > marks:
            return None
        rows = 1
        while True:
            first = keys <= (size - 1) * marks ** -(-rows // (size - 1))
            second = comb(keys, size) <= rows * self.lots_of_a_row(marks, keys, size)
            if first and second:
                return rows
            rows += 1

    def test_counting_up_from_1_with_both_bounds(self):
        for marks in (2, 3, 4, 5):
            few = list(range(2, 70)) + [marks ** power + more for power in range(4, 20) for more in (-1, 0, 1, 2)]
            for keys in few + [999, 1000, 12345, 999999, 1000000]:
                if 2 <= keys <= 10 ** 6:
                    for size in range(2, min(5, keys) + 1):
                        self.assertEqual(rows_let(marks, keys, size), self.least(marks, keys, size))

    def test_none_above_the_marks(self):
        for marks in (2, 3, 4, 5):
            for keys in (5, 60, 10 ** 6):
                for size in range(2, 6):
                    self.assertIs(rows_let(marks, keys, size) is None, size > marks)

    def test_lots_of_a_row_by_trying(self):
        for marks, keys in ((2, 5), (3, 7), (4, 6), (5, 8), (3, 2)):
            row = tuple(key % marks for key in range(keys))
            for size in range(2, min(marks, keys) + 1):
                told = len([lot for lot in lots(keys, size) if tells_apart(row, lot)])
                self.assertEqual(told, self.lots_of_a_row(marks, keys, size))

    def test_each_bound_alone_is_not_enough(self):
        # 8 keys, 3 marks: by the first bound three rows for size 3, by the second one four.
        self.assertEqual(rows_let(3, 8, 3), 4)
        # 1000 keys, 5 marks: by the second bound two rows for size 2, by the first one five.
        self.assertEqual(rows_let(5, 1000, 2), 5)
        self.assertEqual((rows_let(2, 2, 2), rows_let(5, 5, 5), rows_let(5, 5, 2)), (1, 1, 1))
        self.assertEqual((rows_let(2, 10 ** 6, 2), rows_let(2, 2 ** 19, 2), rows_let(2, 2 ** 19 + 1, 2)), (20, 19, 20))


if __name__ == "__main__":
    unittest.main()
