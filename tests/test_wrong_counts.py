"""What counts.py and single.py tell of wrong arguments."""

import unittest
from math import comb

from seedtables.counts import (
    all_counts, all_powers, are_even_shares, bounding_polynomial, counted, even_mean, even_shares, falling_mean,
    greatest_mean, least_mean, mean_of, reaching_shares, table_of,
)
from seedtables.errors import (
    InvalidLot, InvalidMarks, InvalidNumber, InvalidPowers, InvalidQuestion, InvalidShares, InvalidTable, TooMany,
)
from seedtables.single import at_least, bounding_single, greatest_single, least_single, reaching_single
from tests import wrong
from tests.by_hand import all_lots
from tests.samples import FEW_COUNTS, GREAT, MANY_COUNTS, TRIPLED, mixed_table

ASKED = (greatest_mean, least_mean, reaching_shares, bounding_polynomial)
ASKED_SINGLE = (greatest_single, least_single, reaching_single, bounding_single)

# Marks and keys with few counts, at least three.
SOME = ((2, 2), (2, 8), (3, 3), (4, 2), (5, 2))


def number_of_counts(marks, many):
    return comb(many + marks - 1, many)


class Wrong(wrong.Told):
    def test_marks_and_keys(self):
        for marks, many in SOME:
            for function in (all_counts, even_shares):
                self.all_wrong_are_told(function, (marks, many), [wrong.wrong_marks(), wrong.wrong_numbers(1, 8)])

    def test_all_powers(self):
        for marks, many in SOME:
            ways = [wrong.wrong_marks(), wrong.wrong_numbers(1, 8), wrong.wrong_numbers(0, many)]
            self.all_wrong_are_told(all_powers, (marks, many, many), ways)

    def test_even_mean(self):
        for marks, many in SOME:
            ways = [wrong.wrong_marks(), wrong.wrong_numbers(1, 8), wrong.wrong_powers(marks, many)]
            self.all_wrong_are_told(even_mean, (marks, many, (0,) * (marks - 2) + (many,)), ways)

    def test_counted(self):
        for marks, keys in ((2, 3), (3, 8), (5, 2)):
            ways = [wrong.wrong_marks(), wrong.wrong_table_ways(marks), wrong.wrong_lots_and_none(keys)]
            self.all_wrong_are_told(counted, (marks, mixed_table(marks, keys, 5, 1), (0, 1)), ways)

    def test_falling_mean(self):
        for marks, many in SOME:
            length = number_of_counts(marks, many)
            right = (marks, many, wrong.some_shares(length), (many,) + (0,) * (marks - 2))
            ways = [
                wrong.wrong_marks(), wrong.wrong_numbers(1, 8), wrong.wrong_shares(length),
                wrong.wrong_powers(marks, many),
            ]
            self.all_wrong_are_told(falling_mean, right, ways)

    def test_are_even_shares(self):
        for marks, many in SOME:
            length = number_of_counts(marks, many)
            ways = [
                wrong.wrong_marks(), wrong.wrong_numbers(1, 8), wrong.wrong_numbers(0, many),
                wrong.wrong_shares(length),
            ]
            self.all_wrong_are_told(are_even_shares, (marks, many, many, wrong.some_shares(length)), ways)

    def test_mean_of(self):
        for marks, many in SOME:
            length = number_of_counts(marks, many)
            right = (marks, many, wrong.some_shares(length), ((-1, 2),) * length)
            ways = [
                wrong.wrong_marks(), wrong.wrong_numbers(1, 8), wrong.wrong_shares(length),
                wrong.wrong_questions(length),
            ]
            self.all_wrong_are_told(mean_of, right, ways)

    def test_table_of(self):
        for marks, many in SOME:
            length = number_of_counts(marks, many)
            ways = [wrong.wrong_marks(), wrong.wrong_numbers(1, 8), wrong.wrong_shares(length)]
            self.all_wrong_are_told(table_of, (marks, many, wrong.some_shares(length)), ways)

    def test_what_is_asked(self):
        for marks, many in SOME:
            length = number_of_counts(marks, many)
            ways = [
                wrong.wrong_marks(), wrong.wrong_numbers(1, 8), wrong.wrong_numbers(0, many),
                wrong.wrong_questions(length),
            ]
            for function in ASKED:
                self.all_wrong_are_told(function, (marks, many, many, ((-1, 2),) * length), ways)


class JustInsideAndOutside(wrong.Told):
    def test_powers_up_to_the_number_of_keys(self):
        for marks, many in FEW_COUNTS:
            for at in range(marks - 1):
                rest = (0,) * at, (0,) * (marks - 2 - at)
                even_mean(marks, many, rest[0] + (many,) + rest[1])
                powers = rest[0] + (many + 1,) + rest[1]
                self.told(InvalidPowers, "given", powers, even_mean, marks, many, powers)

    def test_size_up_to_the_number_of_keys(self):
        for marks, many in FEW_COUNTS:
            all_powers(marks, many, 0)
            all_powers(marks, many, many)
            self.told(InvalidNumber, "given", many + 1, all_powers, marks, many, many + 1)
            self.told(InvalidNumber, "given", -1, all_powers, marks, many, -1)

    def test_fractions_of_all_kinds_are_let(self):
        for function in ASKED:
            function(2, 8, 3, wrong.RIGHT_FRACTIONS)
        for one in wrong.RIGHT_FRACTIONS:
            self.assertEqual(greatest_mean(2, 2, 1, (one, one, one)), one)

    def test_share_of_nearly_nought(self):
        small = (1, 10 ** 399)
        rest = (10 ** 399 - 1, 10 ** 399)
        self.assertEqual(mean_of(2, 1, (small, rest), ((1, 1), (0, 1))), small)
        self.told(InvalidShares, "index", None, mean_of, 2, 1, (small, (1, 1)), ((1, 1), (0, 1)))


class Last(wrong.Told):
    def test_no_more_than_60_counts(self):
        self.assertEqual(max(number_of_counts(*one) for one in FEW_COUNTS), 56)
        self.assertEqual(min(number_of_counts(*one) for one in MANY_COUNTS), 70)
        for marks, many in FEW_COUNTS:
            length = number_of_counts(marks, many)
            self.assertEqual(len(all_counts(marks, many)), length)
            self.assertEqual(len(even_shares(marks, many)), length)

    def test_behind_all_errors_of_all_arguments(self):
        for marks, many in MANY_COUNTS:
            length = number_of_counts(marks, many)
            if length > 300:
                continue
            shares, nil = wrong.some_shares(length), (0,) * (marks - 1)
            question = ((1, 3),) * length
            calls = [
                (all_counts, ()), (all_powers, (many,)), (even_mean, (nil,)), (even_shares, ()),
                (falling_mean, (shares, nil)), (are_even_shares, (many, shares)), (mean_of, (shares, question)),
                (table_of, (shares,)),
            ] + [(function, (many, question)) for function in ASKED]
            for function, rest in calls:
                self.told(TooMany, "given", length, function, marks, many, *rest)
                self.told(InvalidMarks, "given", 6, function, 6, many, *rest)
                self.told(InvalidNumber, "given", 9, function, marks, 9, *rest)
            self.told(InvalidNumber, "given", many + 1, all_powers, marks, many, many + 1)
            powers = (many + 1,) + nil[1:]
            self.told(InvalidPowers, "given", powers, even_mean, marks, many, powers)
            self.told(InvalidPowers, "given", powers, falling_mean, marks, many, shares, powers)
            self.wrong_rows_are_told(marks, many, length)

    def wrong_rows_are_told(self, marks, many, length):
        """Shares and questions are looked at though there are too many counts."""
        shares, question, nil = wrong.some_shares(length), ((1, 3),) * length, (0,) * (marks - 1)
        wrong_shares = (
            (shares[:-1], None), (question, None), (shares[:-1] + ((2, 4),), length - 1), (((-1, 2),) * length, 0),
        )
        for value, index in wrong_shares:
            self.told(InvalidShares, "index", index, falling_mean, marks, many, value, nil)
            self.told(InvalidShares, "index", index, falling_mean, marks, many, value, None)
            self.told(InvalidShares, "index", index, are_even_shares, marks, many, many, value)
            self.told(InvalidShares, "index", index, mean_of, marks, many, value, question)
            self.told(InvalidShares, "index", index, table_of, marks, many, value)
        wrong_questions = ((question[1:], None), (question[:-1] + ((2, 4),), length - 1), ([question], None))
        for value, index in wrong_questions:
            self.told(InvalidQuestion, "index", index, mean_of, marks, many, shares, value)
            for function in ASKED:
                self.told(InvalidQuestion, "index", index, function, marks, many, many, value)

    def test_counted_has_the_counts_of_the_lot(self):
        for marks, table in GREAT:
            for lot in all_lots(8)[1:]:
                if (marks, len(lot)) in MANY_COUNTS:
                    self.told(TooMany, "given", number_of_counts(marks, len(lot)), counted, marks, table, lot)
            self.told(InvalidLot, "given", (0, 8), counted, marks, table, (0, 8))
            self.told(InvalidLot, "given", (), counted, marks, table, ())
            self.told(InvalidTable, "index", 128, counted, marks, table * 2, tuple(range(8)))

    def test_rows_of_table_of_behind_the_number_of_counts(self):
        # 84 counts, and far more than 128 rows.
        length = number_of_counts(4, 6)
        self.told(TooMany, "given", 84, table_of, 4, 6, ((1, 1009),) * (length - 1) + ((1009 - length + 1, 1009),))
        self.told(TooMany, "given", 84, table_of, 4, 6, ((1, 84),) * length)
        # 56 counts, of which one arrangement alone comes of the first one.
        self.told(TooMany, "given", 1009, table_of, 4, 5, ((1, 1009),) + ((0, 1),) * 54 + ((1008, 1009),))

    def test_rows_of_table_of_up_to_128(self):
        self.assertEqual(table_of(2, 1, ((1, 1), (0, 1))), ((1,),))
        for below in (2, 127, 128):
            self.assertEqual(len(table_of(2, 1, ((1, below), (below - 1, below)))), below)
        for below in (129, 130, 257, 10 ** 30, 10 ** 399):
            self.told(TooMany, "given", below, table_of, 2, 1, ((1, below), (below - 1, below)))
        # Each counts alone may take few rows, all of them together more.
        self.told(TooMany, "given", 11 * 13, table_of, 2, 2, ((1, 11), (2, 13), (108, 143)))
        # Six arrangements of the counts (2, 2) that come in a fifth of the rows: thirty rows.
        nil = (0, 1)
        self.assertEqual(len(table_of(2, 4, ((4, 5), nil, (1, 5), nil, nil))), 30)
        self.told(TooMany, "given", 150, table_of, 2, 4, ((24, 25), nil, (1, 25), nil, nil))
        self.told(TooMany, "given", 256, table_of, 2, 8, even_shares(2, 8))
        self.told(TooMany, "given", 3 ** 5, table_of, 3, 5, even_shares(3, 5))


class Single(wrong.Told):
    def test_at_least(self):
        for many in (1, 2, 7, 12):
            ways = [wrong.wrong_numbers(1, 12), wrong.wrong_numbers(0, many)]
            self.all_wrong_are_told(at_least, (many, many), ways)

    def test_what_is_asked(self):
        for marks, many in ((2, 2), (60, 4), (7, 6), (3, 12)):
            ways = [
                wrong.wrong_marks(2, 60), wrong.wrong_numbers(1, 12), wrong.wrong_numbers(0, min(6, many)),
                wrong.wrong_questions(many + 1),
            ]
            for function in ASKED_SINGLE:
                self.all_wrong_are_told(function, (marks, many, min(6, many), ((-1, 2),) * (many + 1)), ways)

    def test_just_inside_and_outside(self):
        for function in ASKED_SINGLE:
            for marks in (2, 6, 60):
                function(marks, 12, 6, ((1, 2),) * 13)
                function(marks, 1, 0, ((1, 2),) * 2)
            for marks in (1, 61, 0, -60):
                self.told(InvalidMarks, "given", marks, function, marks, 12, 6, ((1, 2),) * 13)
            for many in (0, 13):
                self.told(InvalidNumber, "given", many, function, 2, many, 0, ((1, 2),) * (many + 1))
            for many in range(1, 13):
                for size in range(15):
                    if size <= min(6, many):
                        function(2, many, size, ((1, 2),) * (many + 1))
                    else:
                        self.told(InvalidNumber, "given", size, function, 2, many, size, ((1, 2),) * (many + 1))
        for many in range(1, 13):
            at_least(many, 0)
            at_least(many, many)
            self.told(InvalidNumber, "given", many + 1, at_least, many, many + 1)
            self.told(InvalidNumber, "given", -1, at_least, many, -1)
        self.told(InvalidNumber, "given", 13, at_least, 13, 13)
        self.told(InvalidNumber, "given", 0, at_least, 0, 0)

    def test_lots_of_a_table_are_no_matter_here(self):
        self.assertEqual(counted(2, TRIPLED, (0, 1, 2)), reaching_single(2, 3, 2, at_least(3, 3)))


if __name__ == "__main__":
    unittest.main()
