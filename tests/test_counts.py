"""Counts, powers, means and shares, against counting by hand."""

import unittest
from collections import Counter
from fractions import Fraction
from itertools import permutations, product
from math import comb, factorial, gcd

from seedtables.counts import (
    all_counts, all_powers, are_even_shares, counted, even_mean, even_shares, falling_mean, mean_of, table_of,
)
from seedtables.tables import is_table, strength
from tests import by_hand
from tests.by_hand import number, pair
from tests.samples import FEW_COUNTS, GREAT, MIXED, STRONG, questions, shares_by_rule

STRONG_PAIRS = tuple((marks, table) for marks, table, _ in STRONG)
MOST = 60


def few_lots(marks, table):
    """The lots, but (), with no more than 60 counts."""
    lots = by_hand.all_lots(len(table[0]))
    return [lot for lot in lots if lot and comb(len(lot) + marks - 1, len(lot)) <= MOST]


def disjoint_lots(lot, sizes):
    """All ways to choose disjoint lots of so many keys of a lot."""
    if not sizes:
        return [()]
    found = []
    for first in by_hand.combinations(lot, sizes[0]):
        rest = tuple(key for key in lot if key not in first)
        found += [(first, *others) for others in disjoint_lots(rest, sizes[1:])]
    return found


class CountsAndPowers(unittest.TestCase):
    def test_counts_are_all_tuples_with_the_sum_ascending(self):
        for marks, many in FEW_COUNTS:
            told = all_counts(marks, many)
            self.assertEqual(told, tuple(by_hand.all_counts(marks, many)))
            self.assertTrue(all(one < other for one, other in zip(told, told[1:])))

    def test_most_counts_that_come(self):
        self.assertEqual(max(len(all_counts(marks, many)) for marks, many in FEW_COUNTS), 56)
        self.assertEqual(len(all_counts(4, 5)), 56)
        self.assertEqual(len(all_counts(3, 8)), 45)
        self.assertEqual(len(all_counts(5, 3)), 35)
        self.assertEqual(len(all_counts(2, 8)), 9)

    def test_powers_are_all_tuples_up_to_the_size_ascending(self):
        for marks, many in FEW_COUNTS:
            for size in range(many + 1):
                told = all_powers(marks, many, size)
                self.assertEqual(told, tuple(by_hand.all_powers(marks, size)))
                self.assertTrue(all(one < other for one, other in zip(told, told[1:])))

    def test_powers_up_to_all_keys_are_as_many_as_counts(self):
        for marks, many in FEW_COUNTS:
            self.assertEqual(len(all_powers(marks, many, many)), len(all_counts(marks, many)))
            self.assertEqual(all_powers(marks, many, 0), ((0,) * (marks - 1),))


class EvenOnes(unittest.TestCase):
    def test_even_mean_over_all_patterns(self):
        for marks, many in FEW_COUNTS:
            come = Counter(by_hand.counts_in(marks, pattern) for pattern in by_hand.patterns(marks, many))
            for powers in by_hand.all_powers(marks, many):
                total = sum(times * by_hand.lots_product(counts, powers) for counts, times in come.items())
                self.assertEqual(even_mean(marks, many, powers), pair(Fraction(total, marks ** many)))

    def test_even_mean_as_it_is_told(self):
        for marks, many in FEW_COUNTS:
            for powers in by_hand.all_powers(marks, many):
                self.assertEqual(even_mean(marks, many, powers), pair(by_hand.even_mean(marks, many, powers)))

    def test_even_shares_are_those_of_all_patterns(self):
        for marks, many in FEW_COUNTS:
            come = Counter(by_hand.counts_in(marks, pattern) for pattern in by_hand.patterns(marks, many))
            expected = [pair(Fraction(come[one], marks ** many)) for one in by_hand.all_counts(marks, many)]
            self.assertEqual(even_shares(marks, many), tuple(expected))

    def test_even_shares_have_all_even_means(self):
        for marks, many in FEW_COUNTS:
            shares = even_shares(marks, many)
            for powers in all_powers(marks, many, many):
                self.assertEqual(falling_mean(marks, many, shares, powers), even_mean(marks, many, powers))
            for size in range(many + 1):
                self.assertIs(are_even_shares(marks, many, size, shares), True)


class Counted(unittest.TestCase):
    def test_on_each_lot(self):
        for marks, table in MIXED + STRONG_PAIRS + GREAT:
            for lot in few_lots(marks, table):
                if len(table) > 20 and len(lot) in (3, 4, 6):
                    continue
                come = Counter(by_hand.counts_in(marks, by_hand.at(row, lot)) for row in table)
                counts = by_hand.all_counts(marks, len(lot))
                told = counted(marks, table, lot)
                self.assertEqual(told, tuple(pair(Fraction(come[one], len(table))) for one in counts))

    def test_shares_of_tables_even_up_to_a_size_are_even_up_to_it(self):
        for marks, table in STRONG_PAIRS + MIXED:
            even = strength(marks, table)
            for lot in few_lots(marks, table):
                if len(lot) <= 4 or len(lot) == len(table[0]):
                    size = min(even, len(lot))
                    self.assertIs(are_even_shares(marks, len(lot), size, counted(marks, table, lot)), True)

    def test_uneven_lots_of_one_and_two_marks(self):
        self.assertEqual(counted(2, ((0, 0), (1, 1), (1, 1)), (0, 1)), ((2, 3), (0, 1), (1, 3)))
        self.assertEqual(counted(3, ((2, 0), (1, 1)), (0,)), ((1, 2), (1, 2), (0, 1)))


class FallingMean(unittest.TestCase):
    def test_of_any_shares(self):
        for marks, many in FEW_COUNTS:
            counts = by_hand.all_counts(marks, many)
            for start in (1, 2, 5):
                shares = shares_by_rule(len(counts), start)
                for powers in by_hand.all_powers(marks, many):
                    expected = by_hand.falling_mean(counts, shares, powers)
                    self.assertEqual(falling_mean(marks, many, shares, powers), pair(expected))

    def test_of_tables_by_choosing_keys(self):
        """The sum, over all ways to choose disjoint lots, of the share of rows with the mark m on the m-th."""
        for marks, table in MIXED:
            lot = tuple(range(len(table[0])))[-4:] if marks < 4 else tuple(range(len(table[0])))[-3:]
            shares = counted(marks, table, lot)
            for powers in by_hand.all_powers(marks, len(lot)):
                rows = 0
                for chosen in disjoint_lots(lot, powers):
                    rows += len([
                        row for row in table
                        if all(row[key] == mark for mark, part in enumerate(chosen) for key in part)
                    ])
                told = falling_mean(marks, len(lot), shares, powers)
                self.assertEqual(told, pair(Fraction(rows, len(table))))

    def test_of_no_powers_is_1(self):
        for marks, many in FEW_COUNTS:
            shares = shares_by_rule(len(all_counts(marks, many)), 3)
            self.assertEqual(falling_mean(marks, many, shares, (0,) * (marks - 1)), (1, 1))

    def test_means_of_tables_even_up_to_a_size_are_even(self):
        for marks, table, even in STRONG:
            for lot in few_lots(marks, table)[::3]:
                shares = counted(marks, table, lot)
                for powers in by_hand.all_powers(marks, min(even, len(lot))):
                    told = falling_mean(marks, len(lot), shares, powers)
                    self.assertEqual(told, even_mean(marks, len(lot), powers))


class AreEvenShares(unittest.TestCase):
    def check(self, marks, many, shares):
        """At each size it is told just what the falling means tell."""
        counts = by_hand.all_counts(marks, many)
        for size in range(many + 1):
            expected = all(
                by_hand.falling_mean(counts, shares, powers) == by_hand.even_mean(marks, many, powers)
                for powers in by_hand.all_powers(marks, size)
            )
            self.assertIs(are_even_shares(marks, many, size, shares), expected)

    def test_of_tables(self):
        for marks, table in MIXED + STRONG_PAIRS:
            for lot in few_lots(marks, table)[::5]:
                self.check(marks, len(lot), counted(marks, table, lot))

    def test_of_shares_by_rule(self):
        for marks, many in FEW_COUNTS:
            for start in (1, 4):
                self.check(marks, many, shares_by_rule(len(all_counts(marks, many)), start))

    def test_just_one_size_too_great(self):
        """Shares of two marks that are as even ones but for what no polynomial of lesser degree sees."""
        for many in range(1, 9):
            for size in range(many):
                moved = [number(one) for one in even_shares(2, many)]
                for step in range(size + 2):
                    moved[step] += (-1) ** step * comb(size + 1, step) * Fraction(1, 2 ** many * 2 ** many)
                self.assertTrue(all(one >= 0 for one in moved))
                shares = tuple(pair(one) for one in moved)
                for other in range(many + 1):
                    self.assertIs(are_even_shares(2, many, other, shares), other <= size)

    def test_all_are_even_up_to_0(self):
        for marks, many in FEW_COUNTS:
            for start in (0, 2):
                shares = shares_by_rule(len(all_counts(marks, many)), start)
                self.assertIs(are_even_shares(marks, many, 0, shares), True)

    def test_each_mark_counts_and_powers_of_several_marks_too(self):
        nil, half = (0, 1), (1, 2)
        # Of three marks on one key the first one comes as often as it should.
        self.assertIs(are_even_shares(3, 1, 1, ((2, 3), nil, (1, 3))), False)
        self.assertIs(are_even_shares(3, 1, 1, ((1, 3), (1, 3), (1, 3))), True)
        # All single means are even for these two keys; that of one of each of two marks is not.
        counts = by_hand.all_counts(3, 2)
        self.assertEqual(counts, [(0, 0, 2), (0, 1, 1), (0, 2, 0), (1, 0, 1), (1, 1, 0), (2, 0, 0)])
        shares = ((1, 3), nil, (1, 3), nil, nil, (1, 3))
        self.assertEqual([are_even_shares(3, 2, size, shares) for size in (0, 1, 2)], [True, True, False])
        moved = (nil, half, nil, nil, half, nil)
        self.assertIs(are_even_shares(3, 2, 1, moved), False)


class MeanOf(unittest.TestCase):
    def test_sum_of_shares_times_fractions(self):
        for marks, many in FEW_COUNTS:
            length = len(all_counts(marks, many))
            for start in (1, 2):
                shares = shares_by_rule(length, start)
                for question in questions(length):
                    expected = by_hand.mean(shares, question)
                    self.assertEqual(mean_of(marks, many, shares, question), pair(expected))

    def test_alike_elements(self):
        for marks, many in FEW_COUNTS:
            length = len(all_counts(marks, many))
            for one in ((0, 1), (-7, 3), (10 ** 399, 1), (1, 10 ** 399)):
                self.assertEqual(mean_of(marks, many, even_shares(marks, many), (one,) * length), one)


class Fractions(unittest.TestCase):
    def test_pairs_in_lowest_terms(self):
        for marks, many in FEW_COUNTS:
            length = len(all_counts(marks, many))
            shares = shares_by_rule(length, 1)
            told = list(even_shares(marks, many))
            told += [even_mean(marks, many, powers) for powers in all_powers(marks, many, many)]
            told += [falling_mean(marks, many, shares, powers) for powers in all_powers(marks, many, many)]
            told += [mean_of(marks, many, shares, question) for question in questions(length)]
            for one in told:
                self.assertIs(type(one), tuple)
                self.assertEqual([type(part) for part in one], [int, int])
                self.assertGreater(one[1], 0)
                self.assertEqual(gcd(*one), 1)


def rows_for(marks, many, shares):
    """The fewest rows: the least number with which each arrangement comes a whole number of times."""
    rows = 1
    for counts, share in zip(by_hand.all_counts(marks, many), shares, strict=True):
        ways = factorial(many)
        for one in counts:
            ways //= factorial(one)
        below = (number(share) / ways).denominator
        rows = rows * below // gcd(rows, below)
    return rows


class TableOf(unittest.TestCase):
    def check(self, marks, many, shares):
        told = table_of(marks, many, shares)
        self.assertIs(is_table(marks, told), True)
        self.assertEqual(len(told[0]), many)
        self.assertEqual(list(told), sorted(told))
        self.assertEqual(len(told), rows_for(marks, many, shares))
        self.assertEqual(counted(marks, told, tuple(range(many))), shares)
        come = Counter(told)
        for row in come:
            self.assertEqual({come[other] for other in permutations(row)}, {come[row]})
        # With fewer rows some arrangement would come a broken number of times.
        self.assertEqual(gcd(*come.values()), 1)
        return told

    def few_rows(self):
        """Marks, keys and shares whose table has up to 128 rows."""
        nil, one, half, third = (0, 1), (1, 1), (1, 2), (1, 3)
        yield 2, 3, (nil, (3, 4), nil, (1, 4))
        yield 2, 3, ((1, 4), nil, (3, 4), nil)
        yield 2, 2, (third, third, third)
        yield 3, 2, (third, nil, third, nil, nil, third)
        yield 3, 2, ((1, 6),) * 6
        yield 5, 1, ((1, 25), (2, 25), (3, 25), (4, 25), (3, 5))
        yield 2, 1, ((1, 128), (127, 128))
        yield 4, 5, (half,) + (nil,) * 54 + (half,)
        yield 3, 8, (nil,) * 44 + (one,)
        yield 3, 8, (one,) + (nil,) * 44
        yield 2, 8, (half, nil, nil, nil, nil, nil, nil, nil, half)
        yield 2, 8, (nil, nil, nil, nil, one, nil, nil, nil, nil)
        yield 2, 7, even_shares(2, 7)
        yield 3, 4, even_shares(3, 4)
        yield 4, 3, even_shares(4, 3)
        yield 5, 3, even_shares(5, 3)
        yield 2, 1, even_shares(2, 1)

    def test_fewest_rows_in_order_with_all_arrangements_alike(self):
        for marks, many, shares in self.few_rows():
            self.check(marks, many, shares)

    def test_of_all_shares_by_halves_thirds_and_fourths(self):
        for marks, many in ((2, 1), (2, 2), (2, 3), (2, 4), (3, 1), (3, 2), (4, 1), (5, 1)):
            length = len(all_counts(marks, many))
            for below in (1, 2, 3, 4):
                for parts in product(range(below + 1), repeat=length):
                    if sum(parts) == below:
                        shares = tuple(pair(Fraction(part, below)) for part in parts)
                        if rows_for(marks, many, shares) <= 128:
                            self.check(marks, many, shares)

    def test_row_by_row(self):
        told = table_of(3, 2, ((0, 1), (1, 2), (1, 4), (0, 1), (0, 1), (1, 4)))
        self.assertEqual(told, ((0, 0), (1, 1), (1, 2), (2, 1)))
        told = table_of(2, 2, ((1, 2), (1, 4), (1, 4)))
        self.assertEqual(told, ((0, 0), (0, 0), (0, 1), (1, 0), (1, 1), (1, 1), (1, 1), (1, 1)))

    def test_of_even_shares_are_all_patterns_once(self):
        for marks, many in ((2, 7), (3, 4), (4, 3), (5, 3), (2, 1), (5, 1)):
            told = table_of(marks, many, even_shares(marks, many))
            self.assertEqual(told, tuple(product(range(marks), repeat=many)))

    def test_is_as_even_as_its_shares(self):
        for marks, many, shares in self.few_rows():
            told = self.check(marks, many, shares)
            even = max(size for size in range(many + 1) if are_even_shares(marks, many, size, shares))
            self.assertEqual(strength(marks, told), even)


if __name__ == "__main__":
    unittest.main()
