"""What fewest.py and collisions.py tell of wrong arguments."""

import unittest
from fractions import Fraction

from seedtables.collisions import collision, least_worst, reaches_least, worst_collision, worst_pair
from seedtables.errors import InvalidKey, InvalidMarks, InvalidNumber, InvalidPrices, InvalidTable
from seedtables.fewest import fewest_rows, least_shares, least_sum, price_bound, rao_number, row_prices
from tests import wrong
from tests.by_hand import pair
from tests.samples import BIT, GREAT, TRIPLED, mixed_table

BY_SIZES = (rao_number, least_sum, least_shares, row_prices, fewest_rows)
SIZES = ((2, 1, 1), (2, 12, 7), (3, 5, 2), (4, 12, 12), (5, 8, 0))


class Fewest(wrong.Told):
    def test_marks_keys_and_size(self):
        for marks, keys, size in SIZES:
            ways = [wrong.wrong_marks(), wrong.wrong_numbers(1, 12), wrong.wrong_numbers(0, keys)]
            for function in BY_SIZES:
                self.all_wrong_are_told(function, (marks, keys, size), ways)

    def test_prices(self):
        for marks, keys, size in ((2, 2, 0), (2, 2, 1), (2, 3, 2), (3, 5, 5), (5, 12, 6), (4, 7, 1)):
            ways = [
                wrong.wrong_marks(), wrong.wrong_numbers(1, 12), wrong.wrong_numbers(0, keys),
                wrong.wrong_prices(keys, size),
            ]
            self.all_wrong_are_told(price_bound, (marks, keys, size, ((0, 1),) * keys), ways)

    def test_just_inside_and_outside(self):
        for function in BY_SIZES:
            for marks in (2, 5):
                for keys in (1, 12):
                    function(marks, keys, 0)
                    function(marks, keys, keys)
                    self.told(InvalidNumber, "given", keys + 1, function, marks, keys, keys + 1)
                    self.told(InvalidNumber, "given", -1, function, marks, keys, -1)
                self.told(InvalidNumber, "given", 0, function, marks, 0, 0)
                self.told(InvalidNumber, "given", 13, function, marks, 13, 0)
            self.told(InvalidMarks, "given", 1, function, 1, 12, 0)
            self.told(InvalidMarks, "given", 6, function, 6, 12, 0)

    def test_prices_at_the_edge(self):
        for marks in (2, 3, 4, 5):
            for keys in range(1, 13):
                nil = ((0, 1),) * (keys - 1)
                # f(KEYS) is 1 - f_1 KEYS, f(0) is 1 + f_1 KEYS (v - 1): both may be 0 and no less.
                most, least = (1, keys), (-1, keys * (marks - 1))
                self.assertEqual(price_bound(marks, keys, 1, (most, *nil)), (marks, 1))
                self.assertEqual(price_bound(marks, keys, 0, (least, *nil)), (0, 1))
                above = pair(Fraction(1, keys) + Fraction(1, 10 ** 30))
                below = pair(Fraction(-1, keys * (marks - 1)) - Fraction(1, 10 ** 30))
                for size in (1, keys):
                    for one in (above, below):
                        self.told(InvalidPrices, "index", None, price_bound, marks, keys, size, (one, *nil))
                self.told(InvalidPrices, "index", 0, price_bound, marks, keys, 0, (most, *nil))

    def test_first_wrong_price_ahead_of_what_they_make_together(self):
        bad = (-10 ** 9, 1)
        for at in range(1, 5):
            prices = (bad,) + ((0, 1),) * (at - 1) + ((2, 4),) + ((0, 1),) * (4 - at)
            self.told(InvalidPrices, "index", at, price_bound, 3, 5, 2, prices)
        self.told(InvalidPrices, "index", 3, price_bound, 3, 5, 2, (bad, bad, bad, (1, 9), bad))
        self.told(InvalidPrices, "index", None, price_bound, 3, 5, 4, (bad, bad, bad, (1, 9), bad))


class Collisions(wrong.Told):
    def test_collision(self):
        for marks, keys in ((2, 2), (3, 8), (5, 1)):
            ways = [
                wrong.wrong_marks(), wrong.wrong_table_ways(marks), wrong.wrong_keys(keys), wrong.wrong_keys(keys),
            ]
            self.all_wrong_are_told(collision, (marks, mixed_table(marks, keys, 7, 3), 0, keys - 1), ways)

    def test_tables(self):
        for marks in (2, 3, 4, 5):
            ways = [wrong.wrong_marks(), wrong.wrong_table_ways(marks)]
            for function in (worst_collision, worst_pair, reaches_least):
                self.all_wrong_are_told(function, (marks, mixed_table(marks, 4, 5, 3)), ways)

    def test_least_worst(self):
        ways = [wrong.wrong_marks(), wrong.wrong_numbers(2, 60)]
        for keys in (2, 17, 60):
            self.all_wrong_are_told(least_worst, (3, keys), ways)
        for marks in (2, 3, 4, 5):
            least_worst(marks, 2)
            least_worst(marks, 60)
            for keys in (1, 61, 0, -2, True):
                self.told(InvalidNumber, "given", keys, least_worst, marks, keys)

    def test_reaches_least_needs_two_keys(self):
        for table in (BIT, ((0,),), ((1,),) * 128):
            self.told(InvalidTable, "index", None, reaches_least, 2, table)
            self.assertEqual(worst_collision(2, table), (0, 1))
            self.assertIsNone(worst_pair(2, table))
        self.told(InvalidTable, "index", 1, reaches_least, 2, ((0,), (2,)))
        self.told(InvalidTable, "index", 128, reaches_least, 2, ((0,),) * 129)
        self.told(InvalidMarks, "given", 6, reaches_least, 6, BIT)

    def test_keys_just_inside_and_outside(self):
        for marks, table in GREAT:
            collision(marks, table, 0, 7)
            collision(marks, table, 7, 0)
            for key in (-1, 8, 128, True, None):
                self.told(InvalidKey, "given", key, collision, marks, table, key, 0)
                self.told(InvalidKey, "given", key, collision, marks, table, 0, key)
        self.told(InvalidKey, "given", 3, collision, 2, TRIPLED, 3, 9)


if __name__ == "__main__":
    unittest.main()
