"""Leans, unevenness, likenesses and transform against their sums, and against one another."""

import cmath
import unittest
from fractions import Fraction
from itertools import product
from math import gcd

from seedtables.leans import lean, likenesses, transform, unevenness
from seedtables.tables import is_even_on, strength
from tests import by_hand
from tests.by_hand import number, pair
from tests.samples import GREAT, MIXED, STRONG, all_tables

STRONG_PAIRS = tuple((marks, table) for marks, table, _ in STRONG)
FEW_ROWS = tuple((marks, table) for marks, table in MIXED + STRONG_PAIRS if len(table) <= 16)
FEW_PATTERNS = tuple((marks, table) for marks, table in MIXED if marks ** len(table[0]) <= 1024)
SMALL = ((2, 1, 3), (2, 2, 3), (2, 3, 2), (3, 1, 3), (3, 2, 2), (4, 1, 3), (5, 1, 3))


def exchanged(marks, table):
    """The table with the marks of each key led round by as many as its index and one."""
    return tuple(tuple((mark + key + 1) % marks for key, mark in enumerate(row)) for row in table)


def by_characters(marks, table, lot):
    """The lean as the sum of the squares of means told in [8], nearly."""
    root = cmath.exp(2j * cmath.pi / marks)
    total = 0
    for c in product(range(1, marks), repeat=len(lot)):
        terms = [root ** sum(a * row[key] for a, key in zip(c, lot)) for row in table]
        total += abs(sum(terms) / len(table)) ** 2
    return total


class Fractions(unittest.TestCase):
    def test_pairs_in_lowest_terms(self):
        for marks, table in GREAT + STRONG_PAIRS + MIXED:
            told = list(transform(marks, table))
            for lot in by_hand.all_lots(min(len(table[0]), 3)):
                told += [lean(marks, table, lot), unevenness(marks, table, lot)]
            for one in told:
                self.assertIs(type(one), tuple)
                self.assertEqual([type(part) for part in one], [int, int])
                self.assertGreater(one[1], 0)
                self.assertEqual(gcd(*one), 1)
                self.assertGreaterEqual(one[0], 0)


class Lean(unittest.TestCase):
    def test_against_all_pairs_of_rows_on_all_lots(self):
        for marks, table in FEW_ROWS:
            for lot in by_hand.all_lots(len(table[0])):
                self.assertEqual(lean(marks, table, lot), pair(by_hand.lean(marks, table, lot)))

    def test_against_all_pairs_of_rows_of_great_tables(self):
        for marks, table in GREAT:
            for lot in ((), (3,), (0, 7), (1, 2, 5), tuple(range(8))):
                self.assertEqual(lean(marks, table, lot), pair(by_hand.lean(marks, table, lot)))

    def test_of_all_small_tables(self):
        for marks, keys, rows in SMALL:
            for table in all_tables(marks, keys, rows):
                for lot in by_hand.all_lots(keys):
                    self.assertEqual(lean(marks, table, lot), pair(by_hand.lean(marks, table, lot)))

    def test_of_no_keys_is_1(self):
        for marks, table in GREAT + STRONG_PAIRS + MIXED:
            self.assertEqual(lean(marks, table, ()), (1, 1))

    def test_against_the_means_of_roots(self):
        for marks, table in FEW_PATTERNS:
            for lot in by_hand.all_lots(len(table[0])):
                told = number(lean(marks, table, lot))
                self.assertAlmostEqual(float(told), by_characters(marks, table, lot), 6)

    def test_hangs_not_on_what_the_marks_are(self):
        for marks, table in FEW_ROWS:
            other = exchanged(marks, table)
            self.assertNotEqual(table, other)
            for lot in by_hand.all_lots(len(table[0])):
                self.assertEqual(lean(marks, table, lot), lean(marks, other, lot))

    def test_of_one_row_is_the_greatest(self):
        for marks in (2, 3, 4, 5):
            for keys in range(1, 9):
                row = tuple(key % marks for key in range(keys))
                for rows in (1, 3, 128):
                    self.assertEqual(lean(marks, (row,) * rows, tuple(range(keys))), ((marks - 1) ** keys, 1))

    def test_all_together_are_the_share_of_pairs_that_are_alike(self):
        for marks, table in FEW_ROWS:
            keys = len(table[0])
            together = sum(number(lean(marks, table, lot)) for lot in by_hand.all_lots(keys))
            alike = len([1 for row in table for other in table if row == other])
            self.assertEqual(together, marks ** keys * Fraction(alike, len(table) ** 2))

    def test_even_exactly_if_no_lot_within_has_a_lean(self):
        for marks, table in STRONG_PAIRS + GREAT[:1]:
            lots = by_hand.all_lots(min(len(table[0]), 5))
            leans = {lot: lean(marks, table, lot) for lot in lots}
            for lot in lots:
                without = all(leans[inner] == (0, 1) for inner in by_hand.within(lot))
                self.assertIs(is_even_on(marks, table, lot), without)


class Unevenness(unittest.TestCase):
    def test_against_the_sum_over_all_patterns(self):
        for marks, table in FEW_PATTERNS + STRONG_PAIRS:
            for lot in by_hand.all_lots(len(table[0])):
                if marks ** len(lot) <= 1024:
                    self.assertEqual(unevenness(marks, table, lot), pair(by_hand.unevenness(marks, table, lot)))

    def test_with_more_than_1024_patterns(self):
        for marks, table in GREAT:
            lot = tuple(range(8)) if marks < 5 else tuple(range(1, 8))
            self.assertEqual(unevenness(marks, table, lot), pair(by_hand.unevenness(marks, table, lot)))

    def test_against_the_leans_within(self):
        for marks, table in FEW_ROWS:
            many = len(table)
            for lot in by_hand.all_lots(min(len(table[0]), 5)):
                within = sum(number(lean(marks, table, inner)) for inner in by_hand.within(lot))
                expected = Fraction(many * many, marks ** len(lot)) * within
                self.assertEqual(unevenness(marks, table, lot), pair(expected))

    def test_of_no_keys_is_0(self):
        for marks, table in GREAT + STRONG_PAIRS + MIXED:
            self.assertEqual(unevenness(marks, table, ()), (0, 1))

    def test_0_exactly_on_even_lots(self):
        for marks, table in GREAT + STRONG_PAIRS + MIXED:
            for lot in by_hand.all_lots(len(table[0])):
                self.assertIs(unevenness(marks, table, lot) == (0, 1), is_even_on(marks, table, lot))


class Likenesses(unittest.TestCase):
    def test_against_all_pairs(self):
        for marks, table in GREAT + STRONG_PAIRS + MIXED:
            self.assertEqual(likenesses(marks, table), by_hand.likenesses(table))

    def test_of_all_small_tables(self):
        for marks, keys, rows in SMALL:
            for table in all_tables(marks, keys, rows):
                self.assertEqual(likenesses(marks, table), by_hand.likenesses(table))

    def test_all_pairs_are_counted_both_ways_round(self):
        for marks, table in GREAT + STRONG_PAIRS + MIXED:
            told = likenesses(marks, table)
            self.assertEqual(len(told), len(table[0]) + 1)
            self.assertEqual(sum(told), len(table) ** 2)
            self.assertGreaterEqual(told[0], len(table))

    def test_hang_not_on_how_many_marks_there_are(self):
        for marks, table in MIXED:
            self.assertEqual(likenesses(marks, table), likenesses(5, table))


class Transform(unittest.TestCase):
    def test_against_the_sums_of_leans(self):
        for marks, table in FEW_ROWS:
            keys = len(table[0])
            expected = [
                sum(number(lean(marks, table, lot)) for lot in by_hand.lots(keys, many)) for many in range(keys + 1)
            ]
            self.assertEqual(transform(marks, table), tuple(pair(one) for one in expected))

    def test_against_the_likenesses(self):
        for marks, table in GREAT + STRONG_PAIRS + MIXED:
            keys, pairs = len(table[0]), by_hand.likenesses(table)
            for j, told in enumerate(transform(marks, table)):
                total = sum(pairs[i] * by_hand.weight(marks, keys, j, i) for i in range(keys + 1))
                self.assertEqual(told, pair(Fraction(total, len(table) ** 2)))

    def test_tells_the_likenesses_back(self):
        for marks, table in GREAT + STRONG_PAIRS + MIXED:
            keys, told = len(table[0]), [number(one) for one in transform(marks, table)]
            for i, many in enumerate(likenesses(marks, table)):
                total = sum(told[j] * by_hand.weight(marks, keys, i, j) for j in range(keys + 1))
                self.assertEqual(many, total * len(table) ** 2 / marks ** keys)

    def test_one_for_each_number_of_keys_from_none(self):
        for marks, table in GREAT + STRONG_PAIRS + MIXED:
            told = transform(marks, table)
            self.assertEqual(len(told), len(table[0]) + 1)
            self.assertEqual(told[0], (1, 1))

    def test_0_up_to_the_strength_and_not_behind(self):
        for marks, table in GREAT + STRONG_PAIRS + MIXED:
            told, even = transform(marks, table), strength(marks, table)
            for size in range(len(table[0]) + 1):
                self.assertIs(all(one == (0, 1) for one in told[1:size + 1]), size <= even)


if __name__ == "__main__":
    unittest.main()
