"""Forging chances against all forgeries, and what holds of them for all tables."""

import unittest
from fractions import Fraction
from itertools import product

from seedtables.made import polynomial_table
from seedtables.seals import best_forgery, forged_share, forging_chance, worst_forging
from seedtables.tables import strength
from tests import by_hand
from tests.by_hand import at, number, pair
from tests.samples import BIT, GREAT, LINES, MIXED, ODD, STRONG, TRIPLED, all_tables, mixed_table

STRONG_PAIRS = tuple((marks, table) for marks, table, _ in STRONG)
TABLES = MIXED + STRONG_PAIRS
SMALL = tuple((marks, table) for marks, table in TABLES if len(table[0]) <= 4)


def seen_lots(table):
    """All lots but that of all keys."""
    return by_hand.all_lots(len(table[0]))[:-1]


def coming(table, lot):
    return sorted(set(at(row, lot) for row in table))


def further_keys(table, lot):
    return [key for key in range(len(table[0])) if key not in lot]


def share_of(table, lot, forgery):
    """The share of rows that have the mark of their pattern's triple at its key."""
    chosen = {pattern: (key, mark) for pattern, key, mark in forgery}
    met = 0
    for row in table:
        key, mark = chosen[at(row, lot)]
        met += row[key] == mark
    return Fraction(met, len(table))


def all_forgeries(marks, table, lot):
    choices = [
        [(pattern, key, mark) for key in further_keys(table, lot) for mark in range(marks)]
        for pattern in coming(table, lot)
    ]
    return product(*choices)


def chance(marks, table, lot):
    """The sum, over the patterns, of the greatest share with it and any one mark at any one further key."""
    total, keys = 0, further_keys(table, lot)
    for pattern in coming(table, lot):
        rows = [row for row in table if at(row, lot) == pattern]
        total += max(len([row for row in rows if row[key] == mark]) for key in keys for mark in range(marks))
    return Fraction(total, len(table))


def forgery_by_rule(marks, table, lot, start):
    keys = further_keys(table, lot)
    return tuple(
        (pattern, keys[(place * 3 + start) % len(keys)], (place * place + start) % marks)
        for place, pattern in enumerate(coming(table, lot))
    )


class Chance(unittest.TestCase):
    def test_greatest_share_of_all_forgeries(self):
        for marks, keys, rows in ((2, 1, 3), (2, 2, 3), (2, 3, 2), (3, 2, 2), (2, 2, 4), (3, 1, 3)):
            for table in all_tables(marks, keys, rows):
                for lot in seen_lots(table):
                    shares = [share_of(table, lot, one) for one in all_forgeries(marks, table, lot)]
                    self.assertEqual(forging_chance(marks, table, lot), pair(max(shares)))

    def test_greatest_share_of_all_forgeries_of_larger_tables(self):
        for marks, table, lots in (
            (2, TRIPLED, ((), (0,), (1, 2))), (2, TRIPLED + ODD, ((), (1,), (0, 2))), (3, LINES, ((), (1,))),
            (3, mixed_table(3, 3, 9, 5), ((), (0,), (2,))), (2, mixed_table(2, 4, 9, 5), ((0,), (1, 2))),
            (4, mixed_table(4, 2, 12, 5), ((), (1,))), (5, mixed_table(5, 2, 9, 1), ((0,),)),
        ):
            for lot in lots:
                shares = [share_of(table, lot, one) for one in all_forgeries(marks, table, lot)]
                self.assertEqual(forging_chance(marks, table, lot), pair(max(shares)))

    def test_sum_over_the_patterns(self):
        for marks, table in TABLES:
            for lot in seen_lots(table):
                self.assertEqual(forging_chance(marks, table, lot), pair(chance(marks, table, lot)))

    def test_great_tables(self):
        for marks, table in GREAT:
            for lot in ((), (3,), (0, 7), (1, 2, 5, 6), (0, 1, 2, 3, 4, 5, 6)):
                self.assertEqual(forging_chance(marks, table, lot), pair(chance(marks, table, lot)))

    def test_marks_that_do_not_come(self):
        for marks in (2, 3, 4, 5):
            self.assertEqual(forging_chance(marks, ((0, 0), (0, 1)), ()), (1, 1))
            self.assertEqual(forging_chance(marks, TRIPLED, ()), (1, 2))
            self.assertEqual(forging_chance(marks, BIT, ()), (1, 2))
            self.assertEqual(forging_chance(marks, ((0, 1),), (0,)), (1, 1))


class Forgeries(unittest.TestCase):
    def is_forgery(self, marks, table, lot, forgery):
        self.assertIs(type(forgery), tuple)
        self.assertEqual([pattern for pattern, _, _ in forgery], coming(table, lot))
        for triple in forgery:
            self.assertIs(type(triple), tuple)
            self.assertIn(triple[1], further_keys(table, lot))
            self.assertIn(triple[2], range(marks))

    def test_best_one_is_one_and_has_the_chance(self):
        for marks, table in TABLES:
            for lot in seen_lots(table):
                told = best_forgery(marks, table, lot)
                self.is_forgery(marks, table, lot, told)
                self.assertEqual(pair(share_of(table, lot, told)), forging_chance(marks, table, lot))
                self.assertEqual(forged_share(marks, table, lot, told), forging_chance(marks, table, lot))

    def test_best_one_of_great_tables(self):
        for marks, table in GREAT:
            for lot in ((), (7,), (0, 1, 2, 3, 4, 5, 6), (2, 4)):
                told = best_forgery(marks, table, lot)
                self.is_forgery(marks, table, lot, told)
                self.assertEqual(forged_share(marks, table, lot, told), forging_chance(marks, table, lot))

    def test_shares_counted_by_hand(self):
        for marks, table in TABLES:
            for lot in seen_lots(table):
                for start in range(3):
                    forgery = forgery_by_rule(marks, table, lot, start)
                    told = forged_share(marks, table, lot, forgery)
                    self.assertEqual(told, pair(share_of(table, lot, forgery)))
                    self.assertLessEqual(number(told), number(forging_chance(marks, table, lot)))

    def test_all_forgeries(self):
        mixed = mixed_table(2, 3, 5, 1)
        for marks, table, lot in ((2, TRIPLED, (0,)), (2, ODD, ()), (3, LINES, (0,)), (2, mixed, (2,))):
            for forgery in all_forgeries(marks, table, lot):
                self.assertEqual(forged_share(marks, table, lot, forgery), pair(share_of(table, lot, forgery)))

    def test_triples_for_patterns_that_come_alone(self):
        # Two of three patterns on key 0 come, so there are just two triples.
        told = best_forgery(3, ((0, 1), (2, 2), (2, 2)), (0,))
        self.assertEqual(told, (((0,), 1, 1), ((2,), 1, 2)))
        self.assertEqual(forging_chance(3, ((0, 1), (2, 2), (2, 2)), (0,)), (1, 1))
        self.assertEqual([one[0] for one in best_forgery(5, mixed_table(5, 3, 2, 1), ())], [()])

    def test_mark_that_does_not_come_has_no_share(self):
        self.assertEqual(forged_share(5, BIT, (), (((), 0, 4),)), (0, 1))
        self.assertEqual(forged_share(5, BIT, (), (((), 0, 1),)), (1, 2))


class ForAllTables(unittest.TestCase):
    def test_at_least_1_by_v(self):
        for marks, table in TABLES:
            for lot in seen_lots(table):
                self.assertGreaterEqual(number(forging_chance(marks, table, lot)), Fraction(1, marks))

    def test_just_this_behind_all_lots_exactly_if_even(self):
        both = set()
        for marks, table in TABLES:
            even = strength(marks, table)
            for size in range(1, len(table[0]) + 1):
                chances = [forging_chance(marks, table, lot) for lot in by_hand.lots(len(table[0]), size - 1)]
                told = set(chances) == {(1, marks)}
                self.assertIs(told, even >= size)
                self.assertIs(worst_forging(marks, table, size - 1) == (1, marks), even >= size)
                both.add((size, told))
        self.assertGreater(len(both), 9)

    def test_exactly_if_even_for_all_small_tables(self):
        for marks, keys, rows in ((2, 2, 4), (2, 3, 2), (3, 1, 3), (2, 1, 4), (3, 2, 3)):
            for table in all_tables(marks, keys, rows):
                even = strength(marks, table)
                for size in range(1, keys + 1):
                    self.assertIs(worst_forging(marks, table, size - 1) == (1, marks), even >= size)

    def test_product_behind_none_and_behind_one_key(self):
        tight = 0
        for marks, table in TABLES:
            first = number(forging_chance(marks, table, ()))
            for key in range(len(table[0])) if len(table[0]) > 1 else ():
                both = first * number(forging_chance(marks, table, (key,)))
                self.assertGreaterEqual(both, Fraction(1, len(table)))
                tight += both == Fraction(1, len(table))
        self.assertGreater(tight, 5)

    def test_made_tables(self):
        for prime, size in ((2, 1), (3, 1), (3, 2), (5, 1), (5, 2), (5, 3)):
            table = polynomial_table(prime, size, prime)
            for seen in range(prime):
                # Behind fewer marks than make a polynomial all further ones are as they were; then they are known.
                self.assertEqual(worst_forging(prime, table, seen), (1, prime) if seen < size else (1, 1))


class Worst(unittest.TestCase):
    def test_greatest_behind_all_lots_of_the_size(self):
        for marks, table in TABLES + GREAT[:1]:
            for size in range(len(table[0])):
                chances = [chance(marks, table, lot) for lot in by_hand.lots(len(table[0]), size)]
                self.assertEqual(worst_forging(marks, table, size), pair(max(chances)))

    def test_not_the_first_lot(self):
        # Key 1 tells key 2; key 0 tells nothing.
        table = ((0, 0, 0), (0, 1, 1), (1, 0, 0), (1, 1, 1))
        self.assertEqual([forging_chance(2, table, (key,)) for key in range(3)], [(1, 2), (1, 1), (1, 1)])
        self.assertEqual(worst_forging(2, table, 1), (1, 1))
        self.assertEqual(worst_forging(2, table, 0), (1, 2))


class Small(unittest.TestCase):
    def test_order_of_rows_is_no_matter(self):
        for marks, table in SMALL:
            for lot in seen_lots(table):
                self.assertEqual(forging_chance(marks, table[::-1], lot), forging_chance(marks, table, lot))
                if len(table) <= 64:
                    self.assertEqual(forging_chance(marks, table * 2, lot), forging_chance(marks, table, lot))


if __name__ == "__main__":
    unittest.main()
