"""What certificates.py tells of wrong arguments: first all errors of the function in brackets, then its own."""

import unittest

from seedtables import certificates
from seedtables.certificates import (
    certify_apart, certify_collision, certify_even, certify_fair, certify_forging, certify_framing, certify_lean,
    certify_mean, certify_off, certify_rows, certify_single, certify_strength,
)
from seedtables.errors import (
    InvalidFraction, InvalidLot, InvalidMarks, InvalidNumber, InvalidOrders, InvalidQuestion, InvalidTable,
    InvalidVectors, TooMany,
)
from tests import wrong
from tests.claims import ALONE, CALLS, TURNS
from tests.samples import BIT, GREAT, MANY_COUNTS, TRIPLED, mixed_table, units
from tests.test_wrong_counts import number_of_counts

WRONG_FRACTIONS = ((2, 4), (1, 0), (1, -2), (0, 2), (True, 1), (1, True), [1, 2], 1, None, "1/2", (), ((1, 2),))


class Wrong(wrong.Told):
    def tables(self, marks):
        return [wrong.wrong_marks(), wrong.wrong_table_ways(marks)]

    def test_of_tables_and_sizes(self):
        for marks, keys in ((2, 2), (3, 5), (5, 8)):
            right = (marks, mixed_table(marks, keys, 7, 1), 1)
            for function, least, most in (
                (certify_even, 0, keys), (certify_apart, 1, keys), (certify_framing, 1, keys - 1),
            ):
                self.all_wrong_are_told(function, right, self.tables(marks) + [wrong.wrong_numbers(least, most)])

    def test_lean(self):
        for marks, keys in ((2, 2), (3, 5)):
            ways = self.tables(marks) + [wrong.wrong_lots(keys)]
            self.all_wrong_are_told(certify_lean, (marks, mixed_table(marks, keys, 7, 1), ()), ways)

    def test_collision(self):
        for marks in (2, 3, 4, 5):
            self.all_wrong_are_told(certify_collision, (marks, mixed_table(marks, 3, 7, 1)), self.tables(marks))
        for table in (BIT, ((0,),), ((1,),) * 128):
            self.told(InvalidTable, "index", None, certify_collision, 2, table)
        self.told(InvalidTable, "index", 1, certify_collision, 2, ((0,), (2,)))

    def test_mean(self):
        for marks, many in ((2, 3), (3, 3), (5, 2)):
            length = number_of_counts(marks, many)
            ways = [
                wrong.wrong_marks(), wrong.wrong_numbers(1, 8), wrong.wrong_numbers(0, many),
                wrong.wrong_questions(length), wrong.wrong_given_fractions(),
            ]
            self.all_wrong_are_told(certify_mean, (marks, many, 1, ((1, 2),) * length, (1, 3)), ways)

    def test_single(self):
        for marks, many in ((2, 2), (60, 12)):
            ways = [
                wrong.wrong_marks(2, 60), wrong.wrong_numbers(1, 12), wrong.wrong_numbers(0, min(many, 6)),
                wrong.wrong_questions(many + 1), wrong.wrong_given_fractions(),
            ]
            self.all_wrong_are_told(certify_single, (marks, many, 1, ((1, 2),) * (many + 1), (-1, 3)), ways)

    def test_rows(self):
        for marks, keys in ((2, 1), (3, 5), (5, 12)):
            ways = [
                wrong.wrong_marks(), wrong.wrong_numbers(1, 12), wrong.wrong_numbers(0, keys),
                wrong.wrong_given_fractions(),
            ]
            self.all_wrong_are_told(certify_rows, (marks, keys, 1, (1, 3)), ways)

    def test_strength(self):
        for prime in (2, 3, 5):
            vectors = mixed_table(prime, 2, 4, 1)
            ways = [wrong.wrong_primes(), wrong.wrong_vectors(prime), wrong.wrong_numbers(0, 4)]
            self.all_wrong_are_told(certify_strength, (prime, vectors, 4), ways)

    def test_off(self):
        for marks, keys in ((2, 1), (3, 5), (5, 8)):
            ways = self.tables(marks) + [wrong.wrong_numbers(1, keys), wrong.wrong_given_fractions()]
            self.all_wrong_are_told(certify_off, (marks, mixed_table(marks, keys, 7, 1), 1, (-1, 3)), ways)

    def test_forging(self):
        for marks, keys in ((2, 1), (3, 5), (5, 8)):
            lots = wrong.wrong_lots(keys) + wrong.given(InvalidLot, [tuple(range(keys))])
            ways = self.tables(marks) + [lots, wrong.wrong_given_fractions()]
            self.all_wrong_are_told(certify_forging, (marks, mixed_table(marks, keys, 7, 1), (), (-1, 3)), ways)

    def test_fair(self):
        self.all_wrong_are_told(certify_fair, (TURNS, 2), [wrong.wrong_rows_of_orders(), wrong.wrong_numbers(1, 3)])


class JustInsideAndOutside(wrong.Told):
    def test_fractions_below_0_and_great_ones_are_let(self):
        for name, calls in CALLS.items():
            if name in ("certify_mean", "certify_single", "certify_rows", "certify_off", "certify_forging"):
                for _, passed in calls:
                    for fraction in wrong.RIGHT_FRACTIONS:
                        getattr(certificates, name)(*passed[:-1], fraction)
                    for fraction in WRONG_FRACTIONS:
                        function = getattr(certificates, name)
                        self.told(InvalidFraction, "given", fraction, function, *passed[:-1], fraction)

    def test_counts_of_vectors(self):
        for many in range(1, 7):
            vectors = units(many)
            for count in range(many + 1):
                certify_strength(2, vectors, count)
            for count in (-1, many + 1, True, None, (1,)):
                self.told(InvalidNumber, "given", count, certify_strength, 2, vectors, count)

    def test_sizes(self):
        for marks, table in GREAT:
            for function, least, most in ((certify_even, 0, 8), (certify_apart, 1, 8), (certify_framing, 1, 7)):
                function(marks, table, least)
                function(marks, table, most)
                self.told(InvalidNumber, "given", least - 1, function, marks, table, least - 1)
                self.told(InvalidNumber, "given", most + 1, function, marks, table, most + 1)


class Last(wrong.Told):
    def test_too_many_counts_ahead_of_the_fraction(self):
        for marks, many in MANY_COUNTS:
            length = number_of_counts(marks, many)
            if length <= 300:
                question = ((1, 3),) * length
                for fraction in ((1, 2), (2, 4), None):
                    self.told(TooMany, "given", length, certify_mean, marks, many, 1, question, fraction)
                bad = question[:-1] + ((2, 4),)
                self.told(InvalidQuestion, "index", length - 1, certify_mean, marks, many, 1, bad, (2, 4))

    def test_all_errors_of_the_function_in_brackets_ahead_of_the_fraction(self):
        for fraction in WRONG_FRACTIONS:
            self.told(InvalidMarks, "given", 6, certify_mean, 6, 3, 2, ALONE, fraction)
            self.told(InvalidNumber, "given", 9, certify_mean, 2, 9, 2, ALONE, fraction)
            self.told(InvalidQuestion, "index", None, certify_mean, 2, 3, 2, ALONE[1:], fraction)
            self.told(InvalidNumber, "given", 7, certify_single, 60, 12, 7, ((1, 2),) * 13, fraction)
            self.told(InvalidNumber, "given", 4, certify_rows, 2, 3, 4, fraction)
            self.told(InvalidNumber, "given", 4, certify_off, 2, TRIPLED, 4, fraction)
            self.told(InvalidLot, "given", (0, 1, 2), certify_forging, 2, TRIPLED, (0, 1, 2), fraction)
            self.told(InvalidTable, "index", None, certify_forging, 2, [], (0, 1, 2), fraction)
            self.told(InvalidFraction, "given", fraction, certify_off, 2, TRIPLED, 3, fraction)

    def test_vectors_ahead_of_the_count(self):
        self.told(InvalidVectors, "index", 0, certify_strength, 2, ((2,),), 9)
        self.told(InvalidVectors, "index", 8, certify_strength, 2, ((1,),) * 9, 9)
        self.told(InvalidMarks, "given", 4, certify_strength, 4, ((2,),), 9)

    def test_orders_ahead_of_the_size(self):
        self.told(InvalidOrders, "index", 1, certify_fair, ((0,), (1,)), 9)
        self.told(InvalidNumber, "given", 4, certify_fair, TURNS, 4)

    def test_no_number_of_rows_or_patterns_is_too_many(self):
        self.assertEqual(certify_strength(5, units(6), 6)[0][0], "strength")
        for marks, table in GREAT:
            self.assertEqual(certify_even(marks, table, 8)[0][0], "uneven")
            self.assertEqual(len(certify_lean(marks, table, tuple(range(8)))[0]), 5)


if __name__ == "__main__":
    unittest.main()
