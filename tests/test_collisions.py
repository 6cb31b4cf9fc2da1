"""Collisions against counting by hand, and the least that the worst one can be."""

import unittest
from fractions import Fraction
from itertools import combinations, product
from math import comb

from seedtables.collisions import collision, least_worst, reaches_least, worst_collision, worst_pair
from seedtables.made import behind, polynomial_table
from tests.by_hand import number, pair
from tests.samples import GREAT, LINES, MIXED, ODD, STRONG, TRIPLED, all_tables, mixed_table

TABLES = MIXED + GREAT + tuple((marks, table) for marks, table, _ in STRONG)


def alike(table, one, two):
    """The share of rows in which two keys are alike."""
    return Fraction(len([row for row in table if row[one] == row[two]]), len(table))


def worst(table):
    return max([alike(table, *two) for two in combinations(range(len(table[0])), 2)], default=Fraction(0))


def like_pairs(row):
    return len([two for two in combinations(row, 2) if two[0] == two[1]])


def dealt(marks, keys):
    """A row in which the marks come as evenly as they can."""
    return tuple(key % marks for key in range(keys))


def turned(row):
    """A row for each turn of a row."""
    return tuple(row[at:] + row[:at] for at in range(len(row)))


class Collision(unittest.TestCase):
    def test_each_pair_of_keys(self):
        for marks, table in TABLES:
            for one, two in product(range(len(table[0])), repeat=2):
                told = collision(marks, table, one, two)
                self.assertEqual(told, pair(alike(table, one, two)))
                self.assertEqual(told, collision(marks, table, two, one))

    def test_one_key_twice(self):
        for marks, table in TABLES:
            for key in range(len(table[0])):
                self.assertEqual(collision(marks, table, key, key), (1, 1))

    def test_even_on_two_keys(self):
        for marks, table, even in STRONG:
            if even >= 2:
                for one, two in combinations(range(len(table[0])), 2):
                    self.assertEqual(collision(marks, table, one, two), (1, marks))


class Worst(unittest.TestCase):
    def test_greatest_of_all_pairs(self):
        for marks, table in TABLES:
            self.assertEqual(worst_collision(marks, table), pair(worst(table)))

    def test_first_pair_that_has_it(self):
        for marks, table in TABLES:
            pairs = list(combinations(range(len(table[0])), 2))
            first = next((two for two in pairs if alike(table, *two) == worst(table)), None)
            self.assertEqual(worst_pair(marks, table), first)

    def test_first_pair_among_several(self):
        self.assertEqual(worst_pair(2, ((0, 1, 1, 0), (1, 0, 0, 1))), (0, 3))
        self.assertEqual(worst_pair(3, ((0, 1, 2, 1, 2),)), (1, 3))
        self.assertEqual(worst_pair(2, ((0,) * 8,)), (0, 1))
        self.assertEqual(worst_pair(5, ((0, 1, 2, 3, 4),)), (0, 1))
        self.assertEqual(worst_pair(5, ((0, 1, 2, 3, 4, 4),)), (4, 5))
        self.assertEqual(worst_collision(5, ((0, 1, 2, 3, 4),)), (0, 1))

    def test_one_key(self):
        for marks, table in ((2, ((0,), (1,))), (5, ((4,),)), (3, ((1,),) * 128)):
            self.assertEqual(worst_collision(marks, table), (0, 1))
            self.assertIsNone(worst_pair(marks, table))
            self.assertEqual(collision(marks, table, 0, 0), (1, 1))

    def test_one_row(self):
        for marks, keys in product((2, 3, 4, 5), range(2, 9)):
            table = (dealt(marks, keys),)
            self.assertEqual(worst_collision(marks, table), (int(keys > marks), 1))
            self.assertEqual(worst_pair(marks, table), (0, marks) if keys > marks else (0, 1))


class LeastWorst(unittest.TestCase):
    def test_like_pairs_of_a_row_dealt_out_evenly(self):
        for marks, keys in product((2, 3, 4, 5), range(2, 61)):
            expected = Fraction(like_pairs(dealt(marks, keys)), comb(keys, 2))
            self.assertEqual(least_worst(marks, keys), pair(expected))

    def test_no_row_has_fewer_like_pairs(self):
        for marks, most in ((2, 9), (3, 7), (4, 6), (5, 5)):
            for keys in range(2, most + 1):
                least = min(like_pairs(row) for row in product(range(marks), repeat=keys))
                self.assertEqual(number(least_worst(marks, keys)), Fraction(least, comb(keys, 2)))

    def test_edges(self):
        for marks in (2, 3, 4, 5):
            for keys in range(2, marks + 1):
                self.assertEqual(least_worst(marks, keys), (0, 1))
            self.assertEqual(least_worst(marks, marks + 1), pair(Fraction(1, comb(marks + 1, 2))))
            self.assertLess(number(least_worst(marks, 60)), Fraction(1, marks))
        self.assertEqual(least_worst(5, 60), (11, 59))
        self.assertEqual(least_worst(2, 60), (29, 59))
        self.assertEqual(least_worst(2, 59), (29, 59))

    def test_holds_for_all_tables(self):
        for marks, table in TABLES:
            if len(table[0]) > 1:
                self.assertGreaterEqual(worst(table), number(least_worst(marks, len(table[0]))))


class Reached(unittest.TestCase):
    def just_then(self, marks, table):
        """It is reached exactly if the rows are dealt out evenly and all pairs have one collision."""
        keys = len(table[0])
        whole = keys // marks
        even = all(row.count(mark) in (whole, whole + 1) for row in table for mark in range(marks))
        one = len(set(alike(table, *two) for two in combinations(range(keys), 2))) == 1
        told = reaches_least(marks, table)
        self.assertIs(told, even and one)
        self.assertIs(told, worst_collision(marks, table) == least_worst(marks, keys))
        return told

    def test_all_small_tables(self):
        reached = {True: 0, False: 0}
        sizes = ((2, 2, 1), (2, 2, 2), (2, 2, 3), (2, 3, 1), (2, 3, 2), (2, 3, 3), (3, 2, 2), (3, 3, 1))
        for marks, keys, rows in sizes:
            for table in all_tables(marks, keys, rows):
                reached[self.just_then(marks, table)] += 1
        self.assertGreater(min(reached.values()), 20)

    def test_tables(self):
        for marks, table in TABLES:
            if len(table[0]) > 1:
                self.just_then(marks, table)

    def test_reached(self):
        # All rows with marks dealt out evenly; the turns of three marks over three keys; no like keys at all.
        for marks, keys in ((2, 2), (2, 3), (2, 4), (2, 5), (2, 6), (3, 4), (3, 5), (4, 5)):
            whole = keys // marks
            rows = [one for one in product(range(marks), repeat=keys)
                    if all(one.count(mark) in (whole, whole + 1) for mark in range(marks))]
            if len(rows) <= 128:
                self.assertTrue(self.just_then(marks, tuple(rows)))
        for table in (turned((0, 0, 1)), turned((0, 1, 1)), turned((0, 1, 1)) * 2, ((0, 1),), ((0, 1), (1, 0), (0, 1))):
            self.assertTrue(self.just_then(2, table))
        for marks in (3, 4, 5):
            self.assertTrue(self.just_then(marks, (dealt(marks, marks),)))
        # Seven keys and two marks, each row with three or four alike: a plane of seven points.
        self.assertTrue(self.just_then(2, turned((1, 1, 0, 1, 0, 0, 0))))
        self.assertTrue(self.just_then(2, turned((0, 0, 1, 0, 1, 1, 1))))

    def test_not_reached(self):
        for marks, table in (
            (2, ((0, 0), (0, 1))), (2, TRIPLED), (2, ODD), (3, LINES), (2, turned((0, 0, 1, 1))), (2, ((0,) * 8,)),
            (2, ((0, 0, 1),)), (2, ((0, 0, 1), (0, 1, 0))), (2, turned((0, 0, 1)) + ((0, 0, 1),)), (5, ((3, 3),)),
        ):
            self.assertFalse(self.just_then(marks, table))

    def test_beside_even_tables(self):
        # Even on pairs, each two keys are alike in 1 / v of the rows; with v keys or fewer none need be.
        for prime, size in ((2, 2), (3, 2), (5, 2)):
            table = polynomial_table(prime, size, prime)
            self.assertEqual(worst_collision(prime, table), (1, prime))
            self.assertIs(reaches_least(prime, table), False)


class Behind(unittest.TestCase):
    def pairs(self):
        for marks, keys, rows in ((2, 3, 6), (3, 4, 5), (4, 2, 7), (5, 5, 3), (2, 8, 8)):
            first = mixed_table(marks, keys, rows, keys)
            for fewer, more in ((2, 4), (3, 9), (5, 1), (2, 16)):
                yield marks, first, fewer, mixed_table(fewer, marks, more, marks + fewer)
        yield 5, polynomial_table(5, 1, 5), 2, mixed_table(2, 5, 20, 3)
        yield 3, LINES, 3, ((0, 1, 2), (2, 1, 0))

    def test_worst_collision_is_bounded_by_both(self):
        for marks, first, fewer, second in self.pairs():
            told = number(worst_collision(fewer, behind(marks, first, fewer, second)))
            e, f = number(worst_collision(marks, first)), number(worst_collision(fewer, second))
            self.assertLessEqual(told, e + (1 - e) * f)

    def test_collisions_of_tables_behind_one_another(self):
        for marks, first, fewer, second in self.pairs():
            table = behind(marks, first, fewer, second)
            for one, two in combinations(range(len(first[0])), 2):
                expected = alike(first, one, two)
                for m, n in product(range(marks), repeat=2):
                    if m != n:
                        share = Fraction(len([row for row in first if (row[one], row[two]) == (m, n)]), len(first))
                        expected += share * alike(second, m, n)
                self.assertEqual(collision(fewer, table, one, two), pair(expected))


if __name__ == "__main__":
    unittest.main()
