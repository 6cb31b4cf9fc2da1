"""What made.py tells of wrong arguments."""

import unittest

from seedtables.errors import (
    InvalidLot, InvalidMarks, InvalidNumber, InvalidTable, InvalidVectors, TooMany, UnlikeTables,
)
from seedtables.made import behind, free_strength, polynomial_table, straight_table, sums_table, tie_of
from tests import wrong
from tests.samples import BIT, LINES, TRIPLED, mixed_table


class Wrong(wrong.Told):
    def test_polynomial_table(self):
        for prime in (2, 3, 5):
            ways = [wrong.wrong_primes(), wrong.wrong_numbers(1, 7), wrong.wrong_numbers(1, prime)]
            self.all_wrong_are_told(polynomial_table, (prime, 2, prime), ways)

    def test_vectors(self):
        for prime in (2, 3, 5):
            right = (prime, mixed_table(prime, 2, 8, 1))
            ways = [wrong.wrong_primes(), wrong.wrong_vectors(prime)]
            self.all_wrong_are_told(straight_table, right, ways)
            self.all_wrong_are_told(free_strength, right, ways)

    def test_tie_of(self):
        for prime in (2, 3, 5):
            for many in (2, 5, 8):
                right = (prime, mixed_table(prime, 2, many, 1), (0, 1))
                ways = [wrong.wrong_primes(), wrong.wrong_vectors(prime), wrong.wrong_lots_and_none(many)]
                self.all_wrong_are_told(tie_of, right, ways)

    def test_sums_table(self):
        for marks in (2, 3, 4, 5):
            right = (marks, mixed_table(marks, 2, 6, 4), mixed_table(marks, 3, 3, 9))
            ways = [wrong.wrong_marks(), wrong.wrong_table_ways(marks), wrong.wrong_table_ways(marks)]
            self.all_wrong_are_told(sums_table, right, ways)

    def test_behind(self):
        for marks, fewer in ((2, 2), (2, 5), (3, 4), (5, 3)):
            right = (marks, mixed_table(marks, 2, 6, 4), fewer, mixed_table(fewer, marks, 3, 9))
            ways = [
                wrong.wrong_marks(), wrong.wrong_table_ways(marks), wrong.wrong_marks(),
                wrong.wrong_table_ways(fewer),
            ]
            self.all_wrong_are_told(behind, right, ways)


class JustInsideAndOutside(wrong.Told):
    def test_primes(self):
        for prime in range(-7, 30):
            for function, rest in (
                (polynomial_table, (1, 1)), (straight_table, (((0,),),)), (free_strength, (((0,),),)),
                (tie_of, (((0,),), (0,))),
            ):
                if prime in (2, 3, 5):
                    function(prime, *rest)
                else:
                    self.told(InvalidMarks, "given", prime, function, prime, *rest)

    def test_keys_up_to_the_prime(self):
        for prime in (2, 3, 5):
            for keys in range(1, prime + 1):
                self.assertEqual(len(polynomial_table(prime, 1, keys)[0]), keys)
            for keys in (0, prime + 1, -1):
                self.told(InvalidNumber, "given", keys, polynomial_table, prime, 1, keys)

    def test_rows_of_polynomial_tables(self):
        for prime, most in ((2, 7), (3, 4), (5, 3)):
            for size in range(1, 8):
                if size <= most:
                    self.assertEqual(len(polynomial_table(prime, size, 2)), prime ** size)
                else:
                    self.told(TooMany, "given", prime ** size, polynomial_table, prime, size, 2)
            for size in (0, 8):
                self.told(InvalidNumber, "given", size, polynomial_table, prime, size, 2)

    def test_vectors_of_0_to_6_marks(self):
        for prime, most in ((2, 6), (3, 3), (5, 2)):
            for places in range(7):
                vectors = ((prime - 1,) * places,) * 8
                self.assertEqual(free_strength(prime, vectors), 1)
                self.assertEqual(sum(tie_of(prime, vectors, (3, 7))), prime)
                if places <= most:
                    self.assertEqual(len(straight_table(prime, vectors)), prime ** (places + 1))
                else:
                    self.told(TooMany, "given", prime ** (places + 1), straight_table, prime, vectors)
            vectors = ((prime - 1,) * 7,) * 8
            for function, rest in ((straight_table, ()), (free_strength, ()), (tie_of, ((0,),))):
                self.told(InvalidVectors, "index", 0, function, prime, vectors, *rest)
                self.told(InvalidVectors, "index", 8, function, prime, ((prime - 1,) * 6,) * 9, *rest)

    def test_marks_of_vectors_below_the_prime(self):
        for prime in (2, 3, 5):
            for function, rest in ((straight_table, ()), (free_strength, ()), (tie_of, ((0,),))):
                function(prime, ((0, prime - 1), (prime - 1, 0)), *rest)
                self.told(InvalidVectors, "index", 1, function, prime, ((0, prime - 1), (prime, 0)), *rest)
                self.told(InvalidVectors, "index", 0, function, prime, ((0, prime), (prime, 0)), *rest)

    def test_lots_of_vectors(self):
        vectors = ((0, 1), (1, 0), (1, 1))
        self.assertIsNone(tie_of(2, vectors, (0, 1, 2)))
        for lot in ((), (3,), (0, 3), (1, 0), (0, 0), (-1, 0), [0], None):
            self.told(InvalidLot, "given", lot, tie_of, 2, vectors, lot)

    def test_sums_up_to_8_keys_and_128_rows(self):
        for keys, others in ((1, 8), (2, 4), (8, 1)):
            told = sums_table(3, mixed_table(3, keys, 16, 1), mixed_table(3, others, 8, 2))
            self.assertEqual((len(told), len(told[0])), (128, 8))
        for keys, others in ((3, 3), (2, 5), (5, 2), (8, 2), (8, 8)):
            passed = (3, mixed_table(3, keys, 2, 1), mixed_table(3, others, 2, 2))
            self.told(TooMany, "given", keys * others, sums_table, *passed)
        for rows, others in ((3, 43), (128, 2), (128, 128), (1, 128)):
            passed = (2, BIT[:1] * rows, BIT[:1] * others)
            if rows * others <= 128:
                self.assertEqual(len(sums_table(*passed)), rows * others)
            else:
                self.told(TooMany, "given", rows * others, sums_table, *passed)

    def test_behind_up_to_128_rows(self):
        for rows, others in ((1, 128), (128, 1), (16, 8), (42, 3)):
            self.assertEqual(len(behind(2, BIT[:1] * rows, 3, ((2, 1),) * others)), rows * others)
        for rows, others in ((2, 65), (128, 2), (43, 3), (128, 128)):
            self.told(TooMany, "given", rows * others, behind, 2, BIT[:1] * rows, 3, ((2, 1),) * others)

    def test_fewer_may_be_more(self):
        self.assertEqual(behind(2, BIT, 5, ((4, 3),)), ((4,), (3,)))
        self.assertEqual(behind(5, ((4,), (0,)), 2, ((1, 0, 0, 0, 0),)), ((0,), (1,)))
        for fewer in (1, 6, 0, -2):
            self.told(InvalidMarks, "given", fewer, behind, 2, BIT, fewer, ((4, 3),))


class Last(wrong.Told):
    def test_sums_keys_ahead_of_rows(self):
        long = mixed_table(2, 8, 128, 1)
        self.told(TooMany, "given", 64, sums_table, 2, long, long)
        self.told(TooMany, "given", 24, sums_table, 2, long, TRIPLED)
        self.told(TooMany, "given", 256, sums_table, 2, long, BIT)

    def test_unlike_tables_ahead_of_rows(self):
        for keys in (1, 2, 4, 8):
            self.told(UnlikeTables, None, None, behind, 3, LINES, 2, ((0,) * keys,))
            self.told(UnlikeTables, None, None, behind, 3, LINES * 40, 2, ((0,) * keys,) * 128)
        self.told(TooMany, "given", 120 * 128, behind, 3, LINES * 40, 2, ((0,) * 3,) * 128)

    def test_behind_all_errors_of_all_arguments(self):
        long = mixed_table(2, 8, 128, 1)
        for other in (((0, 2),), ((0,) * 9,), (), [BIT], None, long * 2):
            index = None if type(other) is not tuple or other == () else 128 if other == long * 2 else 0
            self.told(InvalidTable, "index", index, sums_table, 2, long, other)
            self.told(InvalidTable, "index", index, sums_table, 2, other, long)
            self.told(InvalidTable, "index", index, behind, 2, long, 2, other)
            self.told(InvalidTable, "index", index, behind, 2, other, 2, long)
            self.told(InvalidMarks, "given", 6, behind, 2, long, 6, other)
        self.told(InvalidNumber, "given", 6, polynomial_table, 5, 7, 6)
        self.told(InvalidVectors, "index", 1, straight_table, 5, ((0,) * 6, (0,) * 5))

    def test_no_rows_are_counted_for_ties(self):
        vectors = tuple((key % 5,) * 6 for key in range(8))
        self.told(TooMany, "given", 5 ** 7, straight_table, 5, vectors)
        self.assertEqual(free_strength(5, vectors), 1)
        self.assertEqual(sum(tie_of(5, vectors, (0, 5))), 5)

    def test_other_has_its_own_marks(self):
        self.told(InvalidTable, "index", 2, sums_table, 2, BIT, ((0,), (1,), (2,)))
        self.told(InvalidTable, "index", 0, behind, 2, BIT, 3, ((0, 3),))
        self.assertEqual(behind(2, BIT, 4, ((0, 3),)), ((0,), (3,)))


if __name__ == "__main__":
    unittest.main()
