"""Greatest and least means: what is told is reached by shares that are told, and bounded by a polynomial."""

import unittest
from fractions import Fraction
from functools import cache

from seedtables.counts import (
    all_powers, are_even_shares, bounding_polynomial, counted, even_shares, greatest_mean, least_mean, mean_of,
    reaching_shares, table_of,
)
from seedtables.tables import strength
from tests import by_hand
from tests.by_hand import number, pair
from tests.optimum import Optimum
from tests.samples import FEW_COUNTS, MIXED, STRONG, questions

FUNCTIONS = (greatest_mean, least_mean, reaching_shares, bounding_polynomial)


@cache
def lines(marks, many):
    """For each powers with a sum up to all keys its products at all counts and its even mean."""
    counts = by_hand.all_counts(marks, many)
    return {
        powers: ([by_hand.lots_product(one, powers) for one in counts], by_hand.even_mean(marks, many, powers))
        for powers in by_hand.all_powers(marks, many)
    }


def by_counts(marks, many, worth):
    """The question with this worth of each counts."""
    return tuple(pair(worth(counts)) for counts in by_hand.all_counts(marks, many))


class Means(Optimum):
    def check_both(self, marks, many, size, question):
        chosen = [lines(marks, many)[powers] for powers in by_hand.all_powers(marks, size)]
        return self.least_and_greatest(FUNCTIONS, chosen, marks, many, size, question)

    def test_reached_and_bounded_for_all_marks_keys_and_sizes(self):
        for marks, many in FEW_COUNTS:
            for size in range(many + 1):
                for question in questions(len(by_hand.all_counts(marks, many)))[:4]:
                    self.check_both(marks, many, size, question)

    def test_most_crowded_mark(self):
        for marks, many in FEW_COUNTS:
            for size in range(many + 1):
                for worth in (max, lambda counts: int(max(counts) > sum(counts) // 2), lambda counts: counts.count(0)):
                    self.check_both(marks, many, size, by_counts(marks, many, worth))

    def test_alike_elements(self):
        for marks, many in FEW_COUNTS:
            length = len(by_hand.all_counts(marks, many))
            for size in range(many + 1):
                for one in ((0, 1), (-2, 7), (10 ** 399, 1)):
                    self.assertEqual(self.check_both(marks, many, size, (one,) * length), (one, one))

    def test_size_0_lets_each_counts(self):
        for marks, many in FEW_COUNTS:
            for question in questions(len(by_hand.all_counts(marks, many))):
                least, greatest = self.check_both(marks, many, 0, question)
                self.assertEqual(number(least), min(map(number, question)))
                self.assertEqual(number(greatest), max(map(number, question)))

    def test_size_of_all_keys_lets_even_shares_alone(self):
        for marks, many in FEW_COUNTS:
            for question in questions(len(by_hand.all_counts(marks, many))):
                expected = mean_of(marks, many, even_shares(marks, many), question)
                self.assertEqual(self.check_both(marks, many, many, question), (expected, expected))
                self.assertEqual(reaching_shares(marks, many, many, question), even_shares(marks, many))

    def test_polynomials_of_the_size_are_told_for_all_alike(self):
        """What is a polynomial of this degree has its even mean for all shares that are even so far."""
        for marks, many in FEW_COUNTS:
            for size in range(many + 1):
                chosen = [lines(marks, many)[powers] for powers in by_hand.all_powers(marks, size)]
                factors = [Fraction(at * at % 7 - 3, at % 4 + 1) for at in range(len(chosen))]
                values = [sum(f * line[at] for f, (line, _) in zip(factors, chosen)) for at in range(len(chosen[0][0]))]
                expected = pair(sum(f * even for f, (_, even) in zip(factors, chosen)))
                question = tuple(pair(value) for value in values)
                self.assertEqual(self.check_both(marks, many, size, question), (expected, expected))

    def test_narrower_with_each_size(self):
        for marks, many in FEW_COUNTS:
            for question in questions(len(by_hand.all_counts(marks, many))):
                greatest = [number(greatest_mean(marks, many, size, question)) for size in range(many + 1)]
                least = [number(least_mean(marks, many, size, question)) for size in range(many + 1)]
                self.assertEqual(greatest, sorted(greatest, reverse=True))
                self.assertEqual(least, sorted(least))
                self.assertEqual(greatest[-1], least[-1])

    def test_known_ones(self):
        def top(many):
            return by_counts(2, many, lambda counts: int(counts[0] == many))

        # All of many keys: by the mean alone half, by pairs 1 / 4 of three, then as in even ones.
        self.assertEqual([greatest_mean(2, 3, size, top(3)) for size in range(4)], [(1, 1), (1, 2), (1, 4), (1, 8)])
        self.assertEqual([least_mean(2, 3, size, top(3)) for size in range(4)], [(0, 1), (0, 1), (0, 1), (1, 8)])
        # Two keys with one mark, of three marks: a third of the rows if pairs are even, else all or none.
        alike = by_counts(3, 2, lambda counts: int(max(counts) == 2))
        self.assertEqual([greatest_mean(3, 2, size, alike) for size in range(3)], [(1, 1), (1, 1), (1, 3)])
        self.assertEqual([least_mean(3, 2, size, alike) for size in range(3)], [(0, 1), (0, 1), (1, 3)])
        # How many pairs of keys are alike is told by evenness on pairs.
        pairs = by_counts(4, 5, lambda counts: sum(one * (one - 1) // 2 for one in counts))
        self.assertEqual([greatest_mean(4, 5, size, pairs) for size in (1, 2, 3)], [(10, 1), (5, 2), (5, 2)])
        self.assertEqual([least_mean(4, 5, size, pairs) for size in (0, 2)], [(1, 1), (5, 2)])

    def test_great_numbers(self):
        length = len(by_hand.all_counts(4, 5))
        question = tuple(
            pair(Fraction((at * at * 37 % 101 - 50) * 10 ** 300 + at, 10 ** 290 + at * 7 + 1)) for at in range(length)
        )
        for size in (1, 3):
            self.check_both(4, 5, size, question)
        for size in range(9):
            self.check_both(2, 8, size, tuple(pair(Fraction((-1) ** at * 10 ** 399, 3 ** at)) for at in range(9)))

    def test_what_is_told_may_be_passed_again(self):
        for marks, many, size in ((2, 8, 3), (3, 5, 2), (4, 4, 3), (5, 3, 1)):
            question = questions(len(by_hand.all_counts(marks, many)))[0]
            shares = reaching_shares(marks, many, size, question)
            self.assertIs(are_even_shares(marks, many, size, shares), True)
            self.assertEqual(mean_of(marks, many, shares, question), greatest_mean(marks, many, size, question))
            self.assertEqual(len(bounding_polynomial(marks, many, size, question)), len(all_powers(marks, many, size)))
            self.check_both(marks, many, size, shares)


class Tables(unittest.TestCase):
    def test_hold_for_all_tables_on_all_lots(self):
        for marks, table in MIXED + tuple((marks, table) for marks, table, _ in STRONG):
            even = strength(marks, table)
            for lot in by_hand.all_lots(len(table[0]))[1::3]:
                if (marks, len(lot)) not in FEW_COUNTS:
                    continue
                shares, size = counted(marks, table, lot), min(even, len(lot))
                for question in questions(len(shares))[:3]:
                    mean = number(mean_of(marks, len(lot), shares, question))
                    self.assertLessEqual(mean, number(greatest_mean(marks, len(lot), size, question)))
                    self.assertGreaterEqual(mean, number(least_mean(marks, len(lot), size, question)))

    def test_some_table_reaches_it(self):
        few = ((2, 3, 2), (2, 4, 3), (2, 5, 2), (2, 6, 3), (3, 2, 1), (3, 3, 2), (4, 2, 1), (5, 2, 1), (2, 7, 1))
        reached = 0
        for marks, many, size in few:
            for question in questions(len(by_hand.all_counts(marks, many)))[1:]:
                shares = reaching_shares(marks, many, size, question)
                try:
                    table = table_of(marks, many, shares)
                except ValueError:
                    continue
                reached += 1
                self.assertGreaterEqual(strength(marks, table), size)
                lot = tuple(range(many))
                mean = by_hand.mean(counted(marks, table, lot), question)
                self.assertEqual(pair(mean), greatest_mean(marks, many, size, question))
        self.assertGreater(reached, 15)


if __name__ == "__main__":
    unittest.main()
