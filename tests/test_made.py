"""Made tables row by row, ties against trying all of them, and how even the tables are."""

import unittest
from fractions import Fraction
from functools import cache
from itertools import combinations, product

from seedtables.leans import lean
from seedtables.made import behind, free_strength, polynomial_table, straight_table, sums_table, tie_of
from seedtables.tables import is_even_on, is_table, strength
from tests import by_hand
from tests.by_hand import pair
from tests.samples import BIT, GREAT, LINES, ODD, STRONG, TRIPLED, mixed_table, units, weighed_table, with_sum

# Primes, sizes and keys of the polynomial tables with up to 128 rows.
POLYNOMIAL = tuple(
    (prime, size, keys)
    for prime in (2, 3, 5) for size in range(1, 8) for keys in range(1, prime + 1) if prime ** size <= 128
)


def mixed_vectors(prime, places, many, start):
    if places == 0:
        return ((),) * many
    return mixed_table(prime, places, many, start)


# Primes and vectors whose straight table has up to 128 rows.
FEW_ROWS = tuple(
    (prime, mixed_vectors(prime, places, many, 3 * many + start))
    for prime, most in ((2, 6), (3, 3), (5, 2))
    for places in range(most + 1)
    for many, start in ((1, 1), (2, 4), (3, 2), (4, 5), (5, 1), (8, 7))
) + (
    (2, ((0, 0), (0, 1), (1, 0), (1, 1))), (2, tuple(product((0, 1), repeat=3))), (2, units(6) + ((1,) * 6,)),
    (3, ((0, 0), (0, 1), (1, 0), (1, 1))), (3, ((0,), (1,), (2,))), (5, ((0,), (1,), (2,), (3,), (4,))),
    (3, units(3)), (3, units(3) + ((2, 2, 2),)), (5, units(2) + ((0, 0), (1, 3))), (2, units(6) + ((0,) * 6,)),
)

# Primes and vectors whose straight table would have more rows.
MANY_ROWS = tuple(
    (prime, mixed_vectors(prime, places, many, 5 * many + places))
    for prime, places in ((3, 4), (3, 5), (3, 6), (5, 3), (5, 4), (5, 6))
    for many in (1, 3, 5, 7)
) + (
    (3, units(6)), (5, units(6)[:5]), (5, ((1, 0, 0), (1, 1, 1), (1, 2, 4), (1, 3, 4), (1, 4, 1), (0, 0, 1))),
    (3, units(5)[:4] + ((1, 1, 1, 1, 0), (1, 2, 1, 2, 0))),
)


def ties(prime, vectors, lot):
    """All ties of a lot, found by trying."""
    found = []
    for numbers in product(range(1, prime), repeat=len(lot)):
        if sum(numbers) % prime == 0 and not any(
            sum([number * vectors[key][place] for number, key in zip(numbers, lot)]) % prime
            for place in range(len(vectors[0]))
        ):
            found.append(numbers)
    return found


@cache
def tied_lots(prime, vectors):
    """All lots, but (), of up to five vectors, or six if that is all of them, each with its ties."""
    most = 5 if len(vectors) > 6 else len(vectors)
    lots = [lot for size in range(1, most + 1) for lot in combinations(range(len(vectors)), size)]
    return [(lot, ties(prime, vectors, lot)) for lot in lots]


class PolynomialTables(unittest.TestCase):
    def test_values_in_the_order_of_tuples(self):
        for prime, size, keys in POLYNOMIAL:
            expected = [
                tuple(sum(c * key ** place for place, c in enumerate(numbers)) % prime for key in range(keys))
                for numbers in product(range(prime), repeat=size)
            ]
            self.assertEqual(polynomial_table(prime, size, keys), tuple(expected))

    def test_marks_and_rows(self):
        for prime, size, keys in POLYNOMIAL:
            told = polynomial_table(prime, size, keys)
            self.assertIs(is_table(prime, told), True)
            self.assertEqual((len(told), len(told[0])), (prime ** size, keys))

    def test_strength(self):
        for prime, size, keys in POLYNOMIAL:
            self.assertEqual(strength(prime, polynomial_table(prime, size, keys)), min(size, keys))

    def test_even_on_no_lot_of_more_keys(self):
        for prime, size, keys in POLYNOMIAL:
            if size < keys:
                told = polynomial_table(prime, size, keys)
                for lot in by_hand.lots(keys, size + 1):
                    self.assertIs(is_even_on(prime, told, lot), False)

    def test_each_coefficient_at_each_key(self):
        told = polynomial_table(5, 3, 5)
        self.assertEqual(told[0], (0, 0, 0, 0, 0))
        self.assertEqual(told[1], (0, 1, 4, 4, 1))
        self.assertEqual(told[5], (0, 1, 2, 3, 4))
        self.assertEqual(told[25], (1, 1, 1, 1, 1))
        self.assertEqual(told[124], (4, 2, 3, 2, 4))


class StraightTables(unittest.TestCase):
    def test_values_in_the_order_of_tuples(self):
        for prime, vectors in FEW_ROWS:
            expected = []
            for *numbers, last in product(range(prime), repeat=len(vectors[0]) + 1):
                sums = [sum(a * x for a, x in zip(numbers, vector)) + last for vector in vectors]
                expected.append(tuple(total % prime for total in sums))
            self.assertEqual(straight_table(prime, vectors), tuple(expected))

    def test_marks_and_rows(self):
        for prime, vectors in FEW_ROWS:
            told = straight_table(prime, vectors)
            self.assertIs(is_table(prime, told), True)
            self.assertEqual((len(told), len(told[0])), (prime ** (len(vectors[0]) + 1), len(vectors)))

    def test_vectors_without_numbers(self):
        self.assertEqual(straight_table(3, ((),)), ((0,), (1,), (2,)))
        self.assertEqual(straight_table(5, ((), ())), tuple((mark, mark) for mark in range(5)))

    def test_leans_are_the_numbers_of_ties(self):
        for prime, vectors in FEW_ROWS:
            told = straight_table(prime, vectors)
            for lot, found in tied_lots(prime, vectors):
                if len(lot) < 5:
                    self.assertEqual(lean(prime, told, lot), (len(found), 1))

    def test_even_exactly_if_no_lot_within_has_a_tie(self):
        for prime, vectors in FEW_ROWS:
            told = straight_table(prime, vectors)
            tied = {lot: bool(found) for lot, found in tied_lots(prime, vectors)}
            for lot in tied:
                self.assertIs(is_even_on(prime, told, lot), not any(tied[inner] for inner in by_hand.within(lot)))


class Ties(unittest.TestCase):
    def test_against_all_of_them(self):
        for prime, vectors in FEW_ROWS + MANY_ROWS:
            for lot, found in tied_lots(prime, vectors):
                told = tie_of(prime, vectors, lot)
                if found:
                    self.assertIs(type(told), tuple)
                    self.assertEqual([type(one) for one in told], [int] * len(lot))
                    self.assertIn(told, found)
                else:
                    self.assertIsNone(told)

    def test_of_all_eight(self):
        for prime in (2, 3, 5):
            zero, ones = (0,) * 6, (1,) * 6
            self.tie_is_right(prime, units(6) + (zero, (prime - 1,) * 6))
            self.tie_is_right(prime, (ones,) * 8)
            self.tie_is_right(prime, mixed_table(prime, 6, 4, 3) * 2)
        self.assertIsNone(tie_of(2, units(6) + ((0,) * 6, (1, 1, 0, 0, 0, 0)), tuple(range(8))))
        self.assertIsNone(tie_of(5, units(6) + (((2, 2, 2, 2, 2, 0)),) * 2, tuple(range(8))))

    def tie_is_right(self, prime, vectors):
        told = tie_of(prime, vectors, tuple(range(8)))
        found = ties(prime, vectors, tuple(range(8))) if prime < 5 else None
        if told is None:
            self.assertEqual(found, [])
            return
        self.assertTrue(all(type(one) is int and 1 <= one < prime for one in told))
        for place in range(6):
            self.assertEqual(sum(one * vector[place] for one, vector in zip(told, vectors)) % prime, 0)
        self.assertEqual(sum(told) % prime, 0)
        self.assertEqual(len(told), 8)

    def test_one_vector_has_none(self):
        for prime in (2, 3, 5):
            for vectors in (((),), ((0,),), ((0,) * 6,), ((1, 1),)):
                self.assertIsNone(tie_of(prime, vectors, (0,)))

    def test_two_vectors_have_one_exactly_if_they_are_alike(self):
        for prime in (2, 3, 5):
            for one, other in product(product(range(prime), repeat=2), repeat=2):
                told = tie_of(prime, (one, other), (0, 1))
                self.assertIs(told is not None, one == other)

    def test_no_tie_though_a_lot_within_has_one(self):
        vectors = ((0, 0), (0, 0), (1, 1))
        self.assertIsNotNone(tie_of(2, vectors, (0, 1)))
        self.assertIsNone(tie_of(2, vectors, (0, 1, 2)))
        self.assertIsNone(tie_of(3, vectors, (0, 1, 2)))


class FreeStrength(unittest.TestCase):
    def test_is_the_strength_of_the_table(self):
        for prime, vectors in FEW_ROWS:
            self.assertEqual(free_strength(prime, vectors), strength(prime, straight_table(prime, vectors)))

    def test_told_by_ties(self):
        for prime, vectors in FEW_ROWS + MANY_ROWS:
            if len(vectors) > 6:
                continue
            tied = [len(lot) for lot, found in tied_lots(prime, vectors) if found]
            self.assertEqual(free_strength(prime, vectors), min(tied, default=len(vectors) + 1) - 1)

    def test_known_ones(self):
        for prime in (2, 3, 5):
            self.assertEqual(free_strength(prime, units(6)), 6)
            self.assertEqual(free_strength(prime, units(6) + ((0,) * 6,)), 7)
            self.assertEqual(free_strength(prime, units(6) + ((0,) * 6,) * 2), 1)
            self.assertEqual(free_strength(prime, ((),)), 1)
            self.assertEqual(free_strength(prime, ((),) * 8), 1)
        # Powers of unlike numbers: any as many as there are places and one are free of one another.
        powers = tuple((x, x * x % 5, x ** 3 % 5) for x in range(5))
        self.assertEqual(free_strength(5, powers), 4)
        self.assertEqual(free_strength(5, units(6) + ((0,) * 6, (3,) * 6)), 7)
        # Here the units and the last vector have a tie without the vector of noughts.
        self.assertEqual(free_strength(3, units(6) + ((0,) * 6, (1, 1, 1, 1, 1, 2))), 6)


# Pairs of tables of up to 8 keys together by product, and up to 128 rows.
SUMMED = (
    (2, BIT, BIT), (2, ((0, 0), (0, 1)), ((0, 1),)), (2, weighed_table(2, units(2)), TRIPLED),
    (2, TRIPLED, ((0, 1), (1, 1), (1, 0))), (2, weighed_table(2, units(3)), BIT),
    (2, BIT, weighed_table(2, units(4))), (2, weighed_table(2, units(2)), weighed_table(2, units(4))),
    (2, with_sum(2, 3), weighed_table(2, units(2))), (3, LINES, LINES), (3, with_sum(3, 2), ((0,), (1,), (2,))),
    (3, weighed_table(3, units(2)), weighed_table(3, units(2))), (3, LINES, mixed_table(3, 4, 9, 2)),
    (4, weighed_table(4, units(2)), ((0,), (1,), (2,), (3,))),
    (4, mixed_table(4, 2, 8, 3), mixed_table(4, 4, 16, 6)), (4, ((3,),), ((3, 2, 1, 0, 3, 2, 1, 0),)),
    (5, weighed_table(5, units(2)), weighed_table(5, units(1))),
    (5, mixed_table(5, 8, 5, 1), mixed_table(5, 1, 20, 1)),
)


class SumsTables(unittest.TestCase):
    def test_row_by_row_and_key_by_key(self):
        for marks, table, other in SUMMED:
            expected = []
            for row in table:
                for second in other:
                    sums = []
                    for one in row:
                        for two in second:
                            sums.append((one + two) % marks)
                    expected.append(tuple(sums))
            told = sums_table(marks, table, other)
            self.assertEqual(told, tuple(expected))
            self.assertIs(is_table(marks, told), True)

    def test_even_up_to_3_and_both_strengths(self):
        for marks, table, other in SUMMED:
            told = strength(marks, sums_table(marks, table, other))
            self.assertGreaterEqual(told, min(3, strength(marks, table), strength(marks, other)))

    def test_not_even_on_four_corners(self):
        for marks, table, other in SUMMED:
            keys, others = len(table[0]), len(other[0])
            if keys < 2 or others < 2:
                continue
            told = sums_table(marks, table, other)
            for i, h in combinations(range(keys), 2):
                for j, l in combinations(range(others), 2):
                    corners = tuple(sorted((a * others + b for a in (i, h) for b in (j, l))))
                    self.assertIs(is_even_on(marks, told, corners), False)
            self.assertLessEqual(strength(marks, told), 3)

    def test_of_more_tables(self):
        table = weighed_table(2, units(2))
        told = sums_table(2, sums_table(2, table, table), table)
        self.assertEqual((len(told), len(told[0])), (64, 8))
        self.assertEqual(told[0b011011], tuple((a + b + c) % 2 for a in (0, 1) for b in (1, 0) for c in (1, 1)))
        self.assertEqual(strength(2, told), 3)


# Tables with tables behind them: marks, table, fewer, other.
BEHIND = (
    (2, ((0, 0), (0, 1)), 2, ((0, 1), (0, 0))), (2, TRIPLED, 5, ((4, 1), (0, 0), (3, 2))),
    (3, LINES, 2, TRIPLED), (3, mixed_table(3, 8, 16, 4), 2, ODD), (4, mixed_table(4, 5, 7, 4), 3, with_sum(3, 3)[:18]),
    (5, polynomial_table(5, 2, 5), 2, with_sum(2, 4)[:5]), (5, ((4, 3, 2, 1, 0),), 3, mixed_table(3, 5, 128, 3)),
    (4, GREAT[2][1], 2, ((0, 1, 1, 0),)), (2, weighed_table(2, units(3)), 4, weighed_table(4, units(2))),
    (5, ((2,),), 4, mixed_table(4, 5, 9, 1)),
)


def alike(table, one, two):
    return Fraction(len([row for row in table if row[one] == row[two]]), len(table))


class Behind(unittest.TestCase):
    def test_row_by_row(self):
        for marks, table, fewer, other in BEHIND:
            expected = []
            for row in table:
                for second in other:
                    expected.append(tuple([second[mark] for mark in row]))
            told = behind(marks, table, fewer, other)
            self.assertEqual(told, tuple(expected))
            self.assertIs(is_table(fewer, told), True)

    def test_alike_in_just_the_share_that_is_told(self):
        for marks, table, fewer, other in BEHIND:
            told = behind(marks, table, fewer, other)
            for one, two in combinations(range(len(table[0])), 2):
                expected = alike(table, one, two)
                for m, n in product(range(marks), repeat=2):
                    if m != n:
                        rows = len([row for row in table if row[one] == m and row[two] == n])
                        expected += Fraction(rows, len(table)) * alike(other, m, n)
                self.assertEqual(alike(told, one, two), expected)

    def test_even_behind_even(self):
        """A table that is even on two keys, and one behind it that is even on each pair of marks as keys."""
        told = behind(2, weighed_table(2, units(2)), 3, weighed_table(3, units(2)))
        self.assertEqual(strength(3, told), 1)
        self.assertEqual(pair(alike(told, 0, 1)), (2, 3))


class Strong(unittest.TestCase):
    def test_made_tables_are_tables_for_all_other_functions(self):
        for marks, table, even in STRONG:
            if len(table) <= 64 and len(table[0]) <= 4:
                told = sums_table(marks, table, ((0, 1),))
                self.assertEqual(strength(marks, told) > 0, even > 0)


if __name__ == "__main__":
    unittest.main()
