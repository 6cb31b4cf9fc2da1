"""One mark alone: greatest and least means that are reached by shares and bounded by polynomials."""

import unittest
from fractions import Fraction
from functools import cache
from math import comb

from seedtables.counts import greatest_mean, least_mean, reaching_shares
from seedtables.single import at_least, bounding_single, greatest_single, least_single, reaching_single
from seedtables.tables import strength
from tests import by_hand
from tests.by_hand import number, pair
from tests.optimum import Optimum
from tests.samples import FEW_COUNTS, MIXED, STRONG, questions

MARKS = (2, 3, 5, 6, 17, 59, 60)
FUNCTIONS = (greatest_single, least_single, reaching_single, bounding_single)


@cache
def lines(marks, many, size):
    """For j from 0 to the size the numbers of lots of j of 0, 1, .. keys, and their even mean."""
    return [
        ([comb(keys, j) for keys in range(many + 1)], Fraction(comb(many, j), marks ** j)) for j in range(size + 1)
    ]


def free_shares(marks, many):
    """The shares if each key gets the mark with the chance 1 / v, whatever the others get."""
    return [Fraction(comb(many, keys) * (marks - 1) ** (many - keys), marks ** many) for keys in range(many + 1)]


def sizes(many):
    return range(min(6, many) + 1)


class AtLeast(unittest.TestCase):
    def test_1_from_so_many_keys_on_0_below(self):
        for many in range(1, 13):
            for least in range(many + 1):
                expected = tuple((1, 1) if keys >= least else (0, 1) for keys in range(many + 1))
                self.assertEqual(at_least(many, least), expected)

    def test_edges(self):
        self.assertEqual(at_least(1, 0), ((1, 1), (1, 1)))
        self.assertEqual(at_least(1, 1), ((0, 1), (1, 1)))
        self.assertEqual(at_least(12, 0), ((1, 1),) * 13)
        self.assertEqual(at_least(12, 12), ((0, 1),) * 12 + ((1, 1),))


class Single(Optimum):
    def check_both(self, marks, many, size, question):
        return self.least_and_greatest(FUNCTIONS, lines(marks, many, size), marks, many, size, question)

    def test_reached_and_bounded_for_all_keys_and_sizes(self):
        for marks in MARKS:
            for many in range(1, 13):
                for size in sizes(many):
                    for question in questions(many + 1)[:3]:
                        self.check_both(marks, many, size, question)

    def test_at_least_so_many_keys(self):
        for marks in (2, 4, 10, 60):
            for many in (1, 2, 5, 8, 12):
                for size in sizes(many):
                    for least in range(many + 1):
                        self.check_both(marks, many, size, at_least(many, least))

    def test_alike_elements(self):
        for marks in MARKS:
            for many in (1, 6, 7, 12):
                for size in sizes(many):
                    for one in ((0, 1), (-2, 7), (10 ** 399, 1)):
                        self.assertEqual(self.check_both(marks, many, size, (one,) * (many + 1)), (one, one))

    def test_size_0_lets_each_number_of_keys(self):
        for marks in MARKS:
            for many in range(1, 13):
                for question in questions(many + 1):
                    least, greatest = self.check_both(marks, many, 0, question)
                    self.assertEqual(number(least), min(map(number, question)))
                    self.assertEqual(number(greatest), max(map(number, question)))

    def test_size_of_all_keys_lets_one_alone(self):
        for marks in MARKS:
            for many in range(1, 7):
                shares = free_shares(marks, many)
                for question in questions(many + 1):
                    expected = pair(sum(share * number(one) for share, one in zip(shares, question)))
                    self.assertEqual(self.check_both(marks, many, many, question), (expected, expected))
                    told = reaching_single(marks, many, many, question)
                    self.assertEqual(told, tuple(pair(share) for share in shares))

    def test_free_keys_lie_between(self):
        for marks in MARKS:
            for many in (3, 8, 12):
                shares = free_shares(marks, many)
                for question in questions(many + 1):
                    mean = sum(share * number(one) for share, one in zip(shares, question))
                    for size in sizes(many):
                        self.assertLessEqual(mean, number(greatest_single(marks, many, size, question)))
                        self.assertGreaterEqual(mean, number(least_single(marks, many, size, question)))

    def test_narrower_with_each_size(self):
        for marks in MARKS:
            for many in (2, 7, 12):
                for question in questions(many + 1):
                    greatest = [number(greatest_single(marks, many, size, question)) for size in sizes(many)]
                    least = [number(least_single(marks, many, size, question)) for size in sizes(many)]
                    self.assertEqual(greatest, sorted(greatest, reverse=True))
                    self.assertEqual(least, sorted(least))

    def test_known_ones(self):
        for marks in (2, 7, 60):
            for many in (2, 5, 12):
                # By the mean alone, many / marks keys: the share of those with least or more is at most this.
                for least in range(1, many + 1):
                    expected = min(Fraction(1), Fraction(many, marks * least))
                    self.assertEqual(greatest_single(marks, many, 1, at_least(many, least)), pair(expected))
                # By pairs all keys at once come in at most 1 / marks ^ 2 of the rows; with few keys in so many.
                together = greatest_single(marks, many, 2, at_least(many, many))
                self.assertLessEqual(number(together), Fraction(1, marks * marks))
                self.assertIs(together == (1, marks * marks), many <= marks + 1)
                # How many keys there are, and how many pairs of them, is told by evenness.
                keys = tuple((one, 1) for one in range(many + 1))
                pairs = tuple((comb(one, 2), 1) for one in range(many + 1))
                self.assertEqual(self.check_both(marks, many, 1, keys), (pair(Fraction(many, marks)),) * 2)
                self.assertEqual(
                    self.check_both(marks, many, 2, pairs), (pair(Fraction(comb(many, 2), marks * marks)),) * 2
                )

    def test_great_numbers(self):
        question = tuple(pair(Fraction((-1) ** at * 10 ** 399, 3 ** at * 10 ** at + 1)) for at in range(13))
        for marks in (2, 60):
            for size in sizes(12):
                self.check_both(marks, 12, size, question)


class Tables(unittest.TestCase):
    def test_as_told_of_all_counts(self):
        """A question of one mark, asked of all counts, has the same means."""
        for marks, many in FEW_COUNTS:
            counts = by_hand.all_counts(marks, many)
            for single in questions(many + 1)[:2]:
                for mark in (0, marks - 1):
                    question = tuple(single[one[mark]] for one in counts)
                    for size in sizes(many):
                        told = greatest_single(marks, many, size, single)
                        self.assertEqual(told, greatest_mean(marks, many, size, question))
                        told = least_single(marks, many, size, single)
                        self.assertEqual(told, least_mean(marks, many, size, question))

    def test_shares_of_counts_are_shares_of_each_mark_alone(self):
        for marks, many, size in ((3, 8, 3), (4, 5, 2), (5, 3, 2)):
            counts = by_hand.all_counts(marks, many)
            shares = reaching_shares(marks, many, size, questions(len(counts))[0])
            for mark in range(marks):
                of_mark = [Fraction(0)] * (many + 1)
                for one, share in zip(counts, shares):
                    of_mark[one[mark]] += number(share)
                for values, even in lines(marks, many, size):
                    self.assertEqual(sum(share * value for share, value in zip(of_mark, values)), even)

    def test_hold_for_all_tables_on_all_lots_and_marks(self):
        for marks, table in MIXED + tuple((marks, table) for marks, table, _ in STRONG):
            even = strength(marks, table)
            for lot in by_hand.all_lots(len(table[0]))[1::5]:
                size = min(even, len(lot), 6)
                for mark in range(marks):
                    keys = [by_hand.at(row, lot).count(mark) for row in table]
                    for question in questions(len(lot) + 1)[:2]:
                        mean = Fraction(sum(number(question[one]) for one in keys), len(table))
                        self.assertLessEqual(mean, number(greatest_single(marks, len(lot), size, question)))
                        self.assertGreaterEqual(mean, number(least_single(marks, len(lot), size, question)))


if __name__ == "__main__":
    unittest.main()
