"""Rao's number, shares of unlikeness and row prices, which bound one another, against tables of great strength."""

import unittest
from fractions import Fraction
from functools import cache
from itertools import product
from math import comb

from seedtables.fewest import fewest_rows, least_shares, least_sum, price_bound, rao_number, row_prices
from seedtables.leans import likenesses
from seedtables.made import polynomial_table, straight_table
from seedtables.tables import strength
from tests import by_hand
from tests.by_hand import number, pair
from tests.optimum import Optimum
from tests.samples import GREAT, MIXED, STRONG, units

ALL = tuple(
    (marks, keys, size) for marks in (2, 3, 4, 5) for keys in range(1, 13) for size in range(keys + 1)
)
TABLES = MIXED + GREAT + tuple((marks, table) for marks, table, _ in STRONG)


@cache
def weights(marks, keys):
    """K_j(i), by j and then by i."""
    return [[by_hand.weight(marks, keys, j, i) for i in range(keys + 1)] for j in range(keys + 1)]


def characters_of(marks, keys, shares):
    """The sum of A_i K_j(i) over all i, for each j."""
    return [sum(share * one for share, one in zip(shares, row, strict=True)) for row in weights(marks, keys)]


def are_shares(marks, keys, size, shares):
    """Whether numbers are shares of unlikeness."""
    if len(shares) != keys + 1 or min(shares) < 0 or shares[0] < 1:
        return False
    told = characters_of(marks, keys, shares)
    return all(one == 0 for one in told[1:size + 1]) and all(one >= 0 for one in told[size + 1:])


def heights(marks, keys, prices):
    """f(i) for each i."""
    rows = weights(marks, keys)[1:]
    return [1 + sum(price * row[i] for price, row in zip(prices, rows, strict=True)) for i in range(keys + 1)]


class Rao(unittest.TestCase):
    def test_even_sizes_by_its_own_sum(self):
        for marks, keys, size in ALL:
            if size % 2 == 0:
                expected = sum(comb(keys, i) * (marks - 1) ** i for i in range(size // 2 + 1))
                self.assertEqual(rao_number(marks, keys, size), expected)

    def test_odd_sizes_by_one_key_less(self):
        for marks, keys, size in ALL:
            if size % 2 == 1:
                half = (size - 1) // 2
                expected = marks * sum(comb(keys - 1, i) * (marks - 1) ** i for i in range(half + 1))
                self.assertEqual(rao_number(marks, keys, size), expected)
                if keys > 1:
                    self.assertEqual(rao_number(marks, keys, size), marks * rao_number(marks, keys - 1, size - 1))

    def test_as_many_patterns_with_few_marks_but_0(self):
        for marks in (2, 3, 4, 5):
            for keys in range(1, 6):
                for size in range(0, keys + 1, 2):
                    few = [one for one in product(range(marks), repeat=keys) if keys - one.count(0) <= size // 2]
                    self.assertEqual(rao_number(marks, keys, size), len(few))

    def test_edges(self):
        for marks in (2, 3, 4, 5):
            for keys in (1, 7, 12):
                self.assertEqual(rao_number(marks, keys, 0), 1)
                self.assertEqual(rao_number(marks, keys, 1), marks)
            self.assertEqual(rao_number(marks, 12, 12), sum(comb(12, i) * (marks - 1) ** i for i in range(7)))
            self.assertEqual(rao_number(marks, 12, 11), marks * sum(comb(11, i) * (marks - 1) ** i for i in range(6)))

    def test_known_ones(self):
        known = {(2, 7, 2): 8, (2, 8, 3): 16, (3, 4, 2): 9, (3, 11, 4): 243, (3, 12, 5): 729, (2, 12, 3): 24}
        for (marks, keys, size), expected in known.items():
            self.assertEqual(rao_number(marks, keys, size), expected)
            # Tables with just so many rows are known, so that nothing else can be told of these.
            self.assertEqual(least_sum(marks, keys, size), (expected, 1))
            self.assertEqual(fewest_rows(marks, keys, size), expected)


class LeastSum(Optimum):
    def test_shares_reach_it_and_prices_bound_it_for_all_sizes(self):
        for marks, keys, size in ALL:
            least = least_sum(marks, keys, size)
            shares, prices = least_shares(marks, keys, size), row_prices(marks, keys, size)
            self.are_fractions((least,), 1)
            self.are_fractions(shares, keys + 1)
            self.are_fractions(prices, keys)
            told = [number(share) for share in shares]
            self.assertTrue(are_shares(marks, keys, size, told), (marks, keys, size))
            self.assertEqual(sum(told), number(least))
            bound = heights(marks, keys, [number(price) for price in prices])
            self.assertGreaterEqual(min(bound), 0)
            self.assertLessEqual(max([0, *[number(price) for price in prices[size:]]]), 0)
            self.assertEqual(bound[0], number(least))
            self.assertEqual(price_bound(marks, keys, size, prices), least)

    def test_at_least_raos_number_and_at_most_all_patterns(self):
        for marks, keys, size in ALL:
            least = number(least_sum(marks, keys, size))
            self.assertGreaterEqual(least, rao_number(marks, keys, size))
            self.assertLessEqual(least, marks ** keys)

    def test_grows_with_size_and_keys(self):
        for marks, keys, size in ALL:
            least = number(least_sum(marks, keys, size))
            if size:
                self.assertGreaterEqual(least, number(least_sum(marks, keys, size - 1)))
            if size < keys:
                self.assertGreaterEqual(least, number(least_sum(marks, keys - 1, size)) if keys > 1 else 1)

    def test_edges(self):
        for marks in (2, 3, 4, 5):
            for keys in range(1, 13):
                self.assertEqual(least_sum(marks, keys, 0), (1, 1))
                self.assertEqual(least_shares(marks, keys, 0), ((1, 1),) + ((0, 1),) * keys)
                self.assertEqual(least_sum(marks, keys, 1), (marks, 1))
                self.assertEqual(least_sum(marks, keys, keys), (marks ** keys, 1))
                # All patterns once: each is unlike a told one at i keys as often as it can be.
                patterns = tuple((comb(keys, i) * (marks - 1) ** i, 1) for i in range(keys + 1))
                self.assertEqual(least_shares(marks, keys, keys), patterns)

    def test_above_raos_number(self):
        self.assertEqual((rao_number(2, 5, 2), least_sum(2, 5, 2)), (6, (8, 1)))
        self.assertEqual((rao_number(2, 6, 4), least_sum(2, 6, 4)), (22, (80, 3)))


class Prices(unittest.TestCase):
    def test_bound_by_hand(self):
        for marks, keys, size in ALL[::3]:
            for at in range(keys):
                for low in (Fraction(0), Fraction(-1, marks ** keys * 3), Fraction(-1, comb(keys, at + 1) * 1000)):
                    prices = [Fraction(0)] * keys
                    prices[at] = low
                    told = heights(marks, keys, prices)
                    if min(told) >= 0:
                        passed = tuple(pair(price) for price in prices)
                        self.assertEqual(price_bound(marks, keys, size, passed), pair(told[0]))

    def test_bound_of_prices_between(self):
        """Prices that lie between right ones are right, too, with a bound between, up to the least sum."""
        for marks, keys, size in ALL:
            prices = [number(price) for price in row_prices(marks, keys, size)]
            least = number(least_sum(marks, keys, size))
            for part in (Fraction(0), Fraction(1, 3), Fraction(99, 100)):
                passed = tuple(pair(part * price) for price in prices)
                self.assertEqual(price_bound(marks, keys, size, passed), pair(part * least + 1 - part))

    def test_great_numbers(self):
        low = (-1, 10 ** 399)
        for marks in (2, 5):
            told = heights(marks, 12, [Fraction(*low)] * 12)
            self.assertEqual(price_bound(marks, 12, 0, (low,) * 12), pair(told[0]))


class Tables(unittest.TestCase):
    def test_likenesses_are_shares_of_unlikeness_up_to_the_strength(self):
        for marks, table in TABLES:
            keys, even = len(table[0]), strength(marks, table)
            shares = [Fraction(one, len(table)) for one in likenesses(marks, table)]
            self.assertEqual(sum(shares), len(table))
            for size in range(even + 1):
                self.assertTrue(are_shares(marks, keys, size, shares))
                self.assertLessEqual(number(least_sum(marks, keys, size)), len(table))
                self.assertLessEqual(rao_number(marks, keys, size), len(table))
                self.assertLessEqual(fewest_rows(marks, keys, size), len(table))
                self.assertEqual(len(table) % marks ** size, 0)
                bound = number(price_bound(marks, keys, size, row_prices(marks, keys, size)))
                self.assertLessEqual(bound, sum(shares))
            if even < keys:
                self.assertFalse(are_shares(marks, keys, even + 1, shares))

    def test_made_tables_with_the_fewest_rows_there_are(self):
        made = [(prime, polynomial_table(prime, size, keys), min(size, keys)) for prime, size, keys in (
            (2, 2, 2), (3, 2, 3), (3, 3, 3), (5, 2, 5), (5, 3, 5), (5, 1, 4), (3, 4, 3),
        )]
        made += [
            (2, straight_table(2, tuple(product((0, 1), repeat=3))), 3), (2, straight_table(2, units(6)), 6),
            (2, straight_table(2, tuple(product((0, 1), repeat=2))), 3), (3, straight_table(3, ((0,), (1,), (2,))), 2),
        ]
        for marks, table, size in made:
            keys = len(table[0])
            self.assertEqual(strength(marks, table), size)
            self.assertGreaterEqual(len(table), fewest_rows(marks, keys, size))
            if size <= keys and len(table) == marks ** size:
                self.assertEqual(fewest_rows(marks, keys, size), len(table))
        # Of the straight tables above two have as many rows as must be, though fewer than all patterns.
        self.assertEqual(fewest_rows(2, 8, 3), 16)
        self.assertEqual(fewest_rows(2, 4, 3), 8)

    def test_all_patterns(self):
        for marks, keys in ((2, 1), (2, 5), (2, 7), (3, 4), (4, 3), (5, 3)):
            table = tuple(product(range(marks), repeat=keys))
            self.assertEqual(fewest_rows(marks, keys, keys), len(table))
            self.assertEqual(tuple(pair(Fraction(one, len(table))) for one in likenesses(marks, table)),
                             least_shares(marks, keys, keys))


class FewestRows(unittest.TestCase):
    def test_least_multiple_of_the_patterns(self):
        for marks, keys, size in ALL:
            told, least = fewest_rows(marks, keys, size), number(least_sum(marks, keys, size))
            self.assertIs(type(told), int)
            self.assertEqual(told % marks ** size, 0)
            self.assertGreaterEqual(told, least)
            self.assertLess(told - marks ** size, least)

    def test_known_ones(self):
        known = {
            (2, 5, 2): 8, (2, 11, 2): 12, (2, 12, 3): 24, (3, 2, 1): 3, (2, 5, 3): 16, (5, 6, 2): 25, (4, 5, 2): 16,
            (3, 5, 2): 18, (2, 1, 1): 2, (5, 12, 0): 1, (5, 12, 12): 5 ** 12, (2, 6, 4): 32,
        }
        for (marks, keys, size), expected in known.items():
            self.assertEqual(fewest_rows(marks, keys, size), expected)


if __name__ == "__main__":
    unittest.main()
