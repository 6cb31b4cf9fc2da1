"""Counts, evenness, strength and uneven lots against what is counted by hand."""

import unittest

from seedtables.tables import is_even_on, is_table, pattern_counts, strength, uneven_lot
from tests import by_hand
from tests.samples import GREAT, MIXED, STRONG, all_tables, weighed_table, with_sum

STRONG_PAIRS = tuple((marks, table) for marks, table, _ in STRONG)

# Marks, keys and rows of which each table is tried.
SMALL = (
    (2, 1, 1), (2, 1, 2), (2, 1, 3), (2, 1, 4), (2, 2, 1), (2, 2, 2), (2, 2, 4), (2, 3, 1), (2, 3, 2), (2, 3, 4),
    (3, 1, 3), (3, 1, 4), (3, 1, 6), (3, 2, 1), (3, 2, 3), (4, 1, 4), (4, 2, 2), (5, 1, 1), (5, 1, 5),
)


class Counts(unittest.TestCase):
    def test_on_all_lots_row_by_row(self):
        for marks, table in MIXED:
            for lot in by_hand.all_lots(min(len(table[0]), 4)):
                expected = [by_hand.count(table, lot, pattern) for pattern in by_hand.patterns(marks, len(lot))]
                self.assertEqual(pattern_counts(marks, table, lot), tuple(expected))

    def test_on_lots_of_great_tables(self):
        for marks, table in GREAT + STRONG_PAIRS:
            for lot in by_hand.all_lots(len(table[0])):
                if marks ** len(lot) <= 1024 and len(lot) != 3:
                    told = pattern_counts(marks, table, lot)
                    self.assertEqual(told, tuple(by_hand.counts(marks, table, lot)))
                    self.assertEqual(sum(told), len(table))

    def test_on_no_keys_all_rows_have_the_one_pattern(self):
        for marks, table in GREAT + STRONG_PAIRS + MIXED:
            self.assertEqual(pattern_counts(marks, table, ()), (len(table),))

    def test_ascending_by_pattern(self):
        table = ((0, 1), (0, 2), (0, 2), (1, 0), (2, 2))
        self.assertEqual(pattern_counts(3, table, (0, 1)), (0, 1, 2, 1, 0, 0, 0, 0, 1))
        self.assertEqual(pattern_counts(3, table, (0,)), (3, 1, 1))
        self.assertEqual(pattern_counts(3, table, (1,)), (1, 1, 3))

    def test_rows_that_come_again_count_again(self):
        self.assertEqual(pattern_counts(5, ((4,),) * 128, (0,)), (0, 0, 0, 0, 128))

    def test_marks_that_do_not_come_count_none(self):
        self.assertEqual(pattern_counts(5, ((0,), (1,)), (0,)), (1, 1, 0, 0, 0))
        self.assertEqual(pattern_counts(2, ((0,), (1,)), (0,)), (1, 1))


class Evenness(unittest.TestCase):
    def test_on_all_lots_of_all_small_tables(self):
        for marks, keys, rows in SMALL:
            patterns = {lot: by_hand.patterns(marks, len(lot)) for lot in by_hand.all_lots(keys)}
            for table in all_tables(marks, keys, rows):
                for lot in patterns:
                    counts = [by_hand.count(table, lot, pattern) for pattern in patterns[lot]]
                    expected = min(counts) == max(counts)
                    self.assertIs(is_even_on(marks, table, lot), expected, (marks, table, lot))

    def test_on_all_lots_of_greater_tables(self):
        for marks, table in GREAT + STRONG_PAIRS + MIXED:
            for lot in by_hand.all_lots(len(table[0])):
                self.assertIs(is_even_on(marks, table, lot), by_hand.is_even(marks, table, lot))

    def test_always_on_no_keys(self):
        for marks, table in GREAT + STRONG_PAIRS + MIXED:
            self.assertIs(is_even_on(marks, table, ()), True)

    def test_even_on_each_lot_within_an_even_one(self):
        for marks, table in STRONG_PAIRS:
            for lot in by_hand.all_lots(len(table[0])):
                if is_even_on(marks, table, lot):
                    for inner in by_hand.within(lot):
                        self.assertIs(is_even_on(marks, table, inner), True)

    def test_counts_alike_but_a_pattern_left_out(self):
        self.assertIs(is_even_on(3, ((0,), (1,)), (0,)), False)
        self.assertIs(is_even_on(2, ((0, 0), (0, 1), (1, 0)), (0, 1)), False)

    def test_all_patterns_come_but_unlike_often(self):
        self.assertIs(is_even_on(2, ((0,), (1,), (1,)), (0,)), False)
        self.assertIs(is_even_on(2, ((0,), (1,), (1,), (1,)), (0,)), False)
        self.assertIs(is_even_on(2, ((0,), (1,), (1,), (0,)), (0,)), True)


class Strength(unittest.TestCase):
    def test_of_tables_whose_strength_is_known(self):
        for marks, table, expected in STRONG:
            self.assertIs(is_table(marks, table), True)
            self.assertEqual(strength(marks, table), expected)

    def test_against_all_lots(self):
        for marks, table in GREAT + STRONG_PAIRS + MIXED:
            self.assertEqual(strength(marks, table), by_hand.strength(marks, table))

    def test_against_all_lots_of_all_small_tables(self):
        for marks, keys, rows in SMALL:
            if (marks, keys, rows) != (5, 1, 5):
                for table in all_tables(marks, keys, rows):
                    self.assertEqual(strength(marks, table), by_hand.strength(marks, table), (marks, table))

    def test_one_uneven_lot_is_enough(self):
        # Key 1 is key 0 again; all other pairs of keys are even.
        table = weighed_table(3, ((1, 0), (1, 0), (0, 1)))
        self.assertIs(is_even_on(3, table, (0, 2)), True)
        self.assertIs(is_even_on(3, table, (1, 2)), True)
        self.assertEqual(strength(3, table), 1)
        self.assertEqual(strength(2, ((0, 0), (0, 1))), 0)
        self.assertEqual(strength(2, ((0, 0), (1, 0))), 0)

    def test_up_to_the_number_of_keys(self):
        self.assertEqual(strength(2, ((0, 0), (0, 1), (1, 0), (1, 1))), 2)
        self.assertEqual(strength(2, ((0, 0), (0, 1), (1, 0), (1, 1)) * 32), 2)

    def test_hangs_on_the_marks_that_are_told(self):
        self.assertEqual([strength(marks, ((0,), (1,))) for marks in (2, 3, 4, 5)], [1, 0, 0, 0])


class UnevenLots(unittest.TestCase):
    def check(self, marks, table, size):
        """The triple that is told is right, or there is no uneven lot of so many keys."""
        keys = len(table[0])
        told = uneven_lot(marks, table, size)
        if told is None:
            self.assertTrue(all(by_hand.is_even(marks, table, lot) for lot in by_hand.lots(keys, size)))
            return
        self.assertIs(type(told), tuple)
        lot, pattern, other = told
        self.assertIn(lot, by_hand.lots(keys, size))
        for one in (pattern, other):
            self.assertIs(type(one), tuple)
            self.assertEqual(len(one), size)
            self.assertTrue(all(type(mark) is int and 0 <= mark < marks for mark in one), told)
        self.assertNotEqual(by_hand.count(table, lot, pattern), by_hand.count(table, lot, other))

    def test_of_all_small_tables(self):
        for marks, keys, rows in SMALL:
            for table in all_tables(marks, keys, rows):
                for size in range(keys + 1):
                    self.check(marks, table, size)

    def test_of_greater_tables(self):
        for marks, table in GREAT + STRONG_PAIRS + MIXED:
            for size in range(len(table[0]) + 1):
                self.check(marks, table, size)

    def test_none_of_no_keys(self):
        for marks, table in GREAT + STRONG_PAIRS + MIXED:
            self.assertIsNone(uneven_lot(marks, table, 0))

    def test_none_exactly_up_to_the_strength(self):
        for marks, table, expected in STRONG:
            for size in range(len(table[0]) + 1):
                self.assertIs(uneven_lot(marks, table, size) is None, size <= expected)

    def test_one_of_the_counts_may_be_none(self):
        # Each pattern that comes does so just as often.
        for marks in (2, 3, 4):
            table = with_sum(marks, 3)
            lot, pattern, other = uneven_lot(marks, table, 4)
            counts = sorted((by_hand.count(table, lot, pattern), by_hand.count(table, lot, other)))
            self.assertEqual(counts, [0, 1])

    def test_uneven_lot_behind_even_ones(self):
        table = weighed_table(3, ((1, 0), (0, 1), (0, 1)))
        self.assertEqual(uneven_lot(3, table, 2)[0], (1, 2))


if __name__ == "__main__":
    unittest.main()
