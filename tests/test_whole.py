"""What one part tells agrees with another, wherever the document says that they do."""

import unittest
from fractions import Fraction
from itertools import combinations, product

from seedtables.apart import apart_share, blind_lot, framed, is_apart_up_to, is_parted, rows_let
from seedtables.certificates import (
    certify_apart, certify_collision, certify_even, certify_fair, certify_forging, certify_framing, certify_lean,
    certify_mean, certify_off, certify_rows, certify_single, certify_strength,
)
from seedtables.changes import product as product_of
from seedtables.changes import with_keys
from seedtables.checker import accepts
from seedtables.collisions import collision, least_worst, worst_collision, worst_pair
from seedtables.counts import counted, greatest_mean, reaching_shares, table_of
from seedtables.fewest import fewest_rows, least_sum, price_bound, rao_number, row_prices
from seedtables.leans import lean, likenesses, transform, unevenness
from seedtables.made import behind, free_strength, polynomial_table, straight_table, sums_table, tie_of
from seedtables.orders import (
    ahead_share, fairness, first_shares, likeness, made_orders, slant, slant_pair, told_likeness, unfair_lot,
)
from seedtables.seals import best_forgery, forged_share, forging_chance, worst_forging
from seedtables.single import greatest_single, least_single, reaching_single
from seedtables.sources import least_size, like_chance, off, off_bound, worst_lot, worst_off
from seedtables.tables import is_even_on, strength, uneven_lot
from tests import by_hand
from tests.by_hand import all_lots, number, pair
from tests.orders_by_rule import ORDERS
from tests.samples import MIXED, STRONG, questions, units, with_sum

TABLES = MIXED + tuple((marks, table) for marks, table, _ in STRONG)
SMALL = tuple((marks, table) for marks, table in TABLES if len(table) <= 16)


class Rows(unittest.TestCase):
    def test_likenesses_are_papers_for_sums(self):
        """The likenesses over the rows are shares of unlikeness up to the strength, with the rows as their sum."""
        for marks, table in TABLES:
            keys, rows, even = len(table[0]), len(table), strength(marks, table)
            paper = tuple(pair(Fraction(one, rows)) for one in likenesses(marks, table))
            for size in range(keys + 1):
                claim = ("sum up to", marks, keys, size, (rows, 1))
                self.assertIs(accepts(claim, paper), size <= even)
                self.assertIs(accepts((*claim[:4], (rows * 2 - 1, 2)), paper), False)
                if size <= even:
                    bound = number(price_bound(marks, keys, size, row_prices(marks, keys, size)))
                    self.assertEqual(pair(bound), least_sum(marks, keys, size))
                    self.assertLessEqual(rao_number(marks, keys, size), bound)
                    self.assertLessEqual(bound, fewest_rows(marks, keys, size))
                    self.assertLessEqual(fewest_rows(marks, keys, size), rows)

    def test_made_tables(self):
        for prime, vectors in ((2, units(6)), (2, tuple(product((0, 1), repeat=3))), (3, units(3)), (5, units(2))):
            even = free_strength(prime, vectors)
            table = straight_table(prime, vectors)
            self.assertEqual(strength(prime, table), even)
            self.assertGreaterEqual(len(table), fewest_rows(prime, len(vectors), even))
            self.assertEqual(certify_rows(prime, len(vectors), even, (len(table), 1))[0][0] == "rows from",
                             least_sum(prime, len(vectors), even) == (len(table), 1))


class Evenness(unittest.TestCase):
    def test_told_by_counts_leans_transform_and_claims(self):
        for marks, table in TABLES:
            even, told = strength(marks, table), transform(marks, table)
            for size in range(len(table[0]) + 1):
                right = even >= size
                self.assertIs(uneven_lot(marks, table, size) is None, right)
                self.assertIs(all(one == (0, 1) for one in told[1:size + 1]), right)
                self.assertIs(accepts(("even", marks, table, size), ()), right)
                self.assertEqual(certify_even(marks, table, size)[0][0] == "even", right)

    def test_leans_and_unevenness(self):
        for marks, table in SMALL:
            for lot in all_lots(len(table[0]))[::2]:
                leans = [number(lean(marks, table, inner)) for inner in by_hand.within(lot)]
                expected = Fraction(len(table) ** 2, marks ** len(lot)) * sum(leans)
                self.assertEqual(unevenness(marks, table, lot), pair(expected))
                self.assertIs(is_even_on(marks, table, lot), not any(leans))
                claim, paper = certify_lean(marks, table, lot)
                self.assertIs(accepts(claim, paper), True)

    def test_strength_and_forging(self):
        for marks, table in TABLES:
            even = strength(marks, table)
            for size in range(1, len(table[0]) + 1):
                right = even >= size
                self.assertIs(worst_forging(marks, table, size - 1) == (1, marks), right)
                papers = [
                    certify_forging(marks, table, lot, (1, marks))[0][0]
                    for lot in by_hand.lots(len(table[0]), size - 1)
                ]
                self.assertIs(set(papers) == {"forged up to"}, right)

    def test_even_on_a_lot_tells_it_apart(self):
        for marks, table in SMALL:
            for size in range(2, strength(marks, table) + 1):
                if size <= marks:
                    self.assertIs(is_apart_up_to(marks, table, size), True)
                    self.assertIsNone(blind_lot(marks, table, size))

    def test_ties_and_leans(self):
        for prime, vectors in ((2, ((0, 0), (0, 1), (1, 0), (1, 1))), (3, ((0,), (1,), (2,))), (5, ((1,), (3,), (1,)))):
            table = straight_table(prime, vectors)
            for lot in all_lots(len(vectors))[1:]:
                self.assertIs(tie_of(prime, vectors, lot) is None, lean(prime, table, lot) == (0, 1))
            for count in range(len(vectors) + 1):
                told = certify_strength(prime, vectors, count)[0][0], certify_even(prime, table, count)[0][0]
                self.assertIn(told, (("strength", "even"), ("tied", "uneven")))

    def test_products_and_sums_of_tables(self):
        first, second = with_sum(2, 3), polynomial_table(2, 2, 2)
        both = product_of(2, first, second)
        # All of second's keys are even, so it does not count.
        self.assertEqual((strength(2, first), strength(2, second), strength(2, both)), (3, 2, 3))
        self.assertEqual(strength(2, with_keys(2, both, (0, 1, 2, 3))), 3)
        self.assertIn(strength(2, sums_table(2, first, second)), (2, 3))


class CollisionsAndSources(unittest.TestCase):
    def test_like_chance_by_collisions(self):
        for marks, table in SMALL:
            keys = len(table[0])
            flat = ((1, keys),) * keys
            total = sum(number(collision(marks, table, one, two)) for one in range(keys) for two in range(keys))
            self.assertEqual(like_chance(marks, table, flat), pair(total / keys ** 2))
            self.assertLessEqual(number(off(marks, table, flat)) ** 2, number(off_bound(marks, table, flat)))

    def test_pairs_of_keys(self):
        """Of two keys alone the off is told by their collision if there are two marks."""
        for marks, table in TABLES:
            keys = len(table[0])
            if marks == 2 and keys > 1:
                worst = number(worst_collision(2, table))
                # Half of the rows in which both are alike.
                self.assertEqual(worst_off(2, table, 2), pair(worst / 2))
                self.assertEqual(collision(2, table, *worst_lot(2, table, 2)), pair(worst))
                self.assertEqual(collision(2, table, *worst_pair(2, table)), pair(worst))

    def test_few_collisions_bound_offs(self):
        for marks, table in TABLES:
            if number(worst_collision(marks, table)) <= Fraction(1, marks):
                for size in range(1, len(table[0]) + 1):
                    self.assertLessEqual(number(worst_off(marks, table, size)) ** 2, Fraction(marks - 1, 4 * size))

    def test_strength_2_and_collisions(self):
        for marks, table in TABLES:
            keys = len(table[0])
            if keys > 1 and strength(marks, table) >= 2:
                self.assertEqual(worst_collision(marks, table), (1, marks))
                self.assertLessEqual(number(least_worst(marks, keys)), Fraction(1, marks))

    def test_behind_one_another(self):
        table = polynomial_table(5, 1, 5)
        second = with_keys(2, with_sum(2, 4), (0, 1, 2, 3, 4))
        told = behind(5, table, 2, second[:25])
        e, f = number(worst_collision(5, table)), number(worst_collision(2, second[:25]))
        self.assertLessEqual(number(worst_collision(2, told)), e + (1 - e) * f)

    def test_claims(self):
        for marks, table in SMALL:
            for size in range(1, len(table[0]) + 1):
                exact = worst_off(marks, table, size)
                self.assertEqual(certify_off(marks, table, size, exact)[0][0], "off up to")
                self.assertLessEqual(least_size(marks, table, exact), size)
            if len(table[0]) > 1:
                self.assertEqual(certify_collision(marks, table)[0][-1], worst_collision(marks, table))


class Means(unittest.TestCase):
    def test_shares_of_tables_are_papers(self):
        """A table's shares are a paper for what is below its mean, for each size up to its strength."""
        for marks, table in SMALL:
            keys, even = len(table[0]), strength(marks, table)
            lot = tuple(range(min(keys, 3)))
            shares = counted(marks, table, lot)
            question = questions(len(shares))[0]
            mean = by_hand.mean(shares, question)
            for size in range(len(lot) + 1):
                claim = ("mean above", marks, len(lot), size, question)
                below = (*claim, pair(mean - Fraction(1, 10 ** 9)))
                self.assertIs(accepts(below, shares), are_even(marks, len(lot), shares, size))
                self.assertIs(accepts((*claim, pair(mean)), shares), False)
                if size <= even:
                    self.assertIs(accepts(below, shares), True)
                    self.assertLessEqual(mean, number(greatest_mean(marks, len(lot), size, question)))

    def test_table_that_reaches_a_mean(self):
        question = ((0, 1), (0, 1), (0, 1), (1, 1))
        shares = reaching_shares(2, 3, 2, question)
        table = table_of(2, 3, shares)
        self.assertGreaterEqual(strength(2, table), 2)
        self.assertEqual(counted(2, table, (0, 1, 2)), shares)
        self.assertEqual(certify_mean(2, 3, 2, question, (6, 25)), (("mean above", 2, 3, 2, question, (6, 25)), shares))

    def test_one_mark_alone_and_counts(self):
        for marks, many in ((2, 5), (3, 4), (4, 3), (5, 2)):
            counts = by_hand.all_counts(marks, many)
            for single in questions(many + 1)[:3]:
                question = tuple(single[one[0]] for one in counts)
                for size in range(many + 1):
                    exact = greatest_single(marks, many, size, single)
                    self.assertEqual(exact, greatest_mean(marks, many, size, question))
                    less, least = pair(number(exact) - Fraction(1, 7)), least_single(marks, many, size, single)
                    for fraction in (exact, less, least):
                        one = certify_single(marks, many, size, single, fraction)[0][0]
                        two = certify_mean(marks, many, size, question, fraction)[0][0]
                        self.assertEqual(one.replace("single", "mean"), two)

    def test_shares_of_one_mark_in_tables_are_papers(self):
        for marks, table in SMALL:
            keys, even = len(table[0]), strength(marks, table)
            for mark in range(marks):
                many = [row.count(mark) for row in table]
                shares = tuple(pair(Fraction(many.count(one), len(table))) for one in range(keys + 1))
                question = questions(keys + 1)[0]
                mean = by_hand.mean(shares, question)
                claim = ("single above", marks, keys, min(even, 6), question, pair(mean - 1))
                self.assertIs(accepts(claim, shares), True)

    def test_reaching_shares_of_one_mark_are_those_of_counts_for_two_marks(self):
        for many in range(1, 9):
            single = questions(many + 1)[0]
            for size in range(min(6, many) + 1):
                # With two marks the counts ascending are the keys of the first mark ascending.
                told = reaching_single(2, many, size, single)
                self.assertIs(accepts(("mean above", 2, many, size, single, (-100, 1)), told), True)


def are_even(marks, many, shares, size):
    """Whether the shares of counts of so many keys are even up to the size, by falling means."""
    counts = by_hand.all_counts(marks, many)
    return all(
        by_hand.falling_mean(counts, shares, powers) == by_hand.even_mean(marks, many, powers)
        for powers in by_hand.all_powers(marks, size)
    )


class Seals(unittest.TestCase):
    def test_best_forgeries_are_papers(self):
        for marks, table in SMALL:
            for lot in all_lots(len(table[0]))[:-1:3]:
                chance = forging_chance(marks, table, lot)
                forgery = best_forgery(marks, table, lot)
                self.assertEqual(forged_share(marks, table, lot, forgery), chance)
                less = pair(number(chance) - Fraction(1, 10 ** 9))
                self.assertIs(accepts(("forged above", marks, table, lot, less), forgery), True)
                self.assertIs(accepts(("forged above", marks, table, lot, chance), forgery), False)
                self.assertIs(accepts(("forged up to", marks, table, lot, chance), ()), True)


class Orders(unittest.TestCase):
    def test_fairness_slant_likeness_and_claims(self):
        for orders in ORDERS + tuple(made_orders(keys) for keys in range(1, 7)):
            keys, fair = len(orders[0]), fairness(orders)
            for size in range(1, keys + 1):
                right = fair >= size
                self.assertIs(slant(orders, size) == (0, 1), right)
                self.assertEqual(certify_fair(orders, size)[0][0] == "fair", right)
                lot, other = slant_pair(orders, size)
                self.assertIs(told_likeness(orders, lot, other) == likeness(orders, lot, other), right)
            self.assertIs(unfair_lot(orders) is None, fair == keys)

    def test_told_likeness_by_first_shares(self):
        for orders in ORDERS[::3]:
            for lot, other in combinations(all_lots(min(len(orders[0]), 4))[1:], 2):
                both = tuple(sorted(set(lot) | set(other)))
                shares = dict(zip(both, map(number, first_shares(orders, both))))
                expected = sum((shares[key] for key in lot if key in other), Fraction(0))
                self.assertEqual(told_likeness(orders, lot, other), pair(expected))

    def test_made_orders_have_like_shares_ahead(self):
        for keys in range(1, 7):
            orders = made_orders(keys)
            for lot in all_lots(keys)[:-1]:
                shares = set(ahead_share(orders, lot, key) for key in range(keys) if key not in lot)
                self.assertEqual(len(shares), 1)


class Apart(unittest.TestCase):
    def test_claims_and_bounds(self):
        for marks, table in TABLES:
            keys = len(table[0])
            for size in range(1, keys + 1):
                right = is_apart_up_to(marks, table, size)
                self.assertIs(blind_lot(marks, table, size) is None, right)
                self.assertEqual(certify_apart(marks, table, size)[0][0] == "apart", right)
                if right and 2 <= size <= 5:
                    self.assertLessEqual(rows_let(marks, keys, size), len(table))
            for size in range(1, keys):
                told = framed(marks, table, size)
                self.assertEqual(certify_framing(marks, table, size)[0][0] == "unframed", told is None)
                if told is not None:
                    self.assertIs(is_parted(marks, table, told[:1], told[1]), False)

    def test_one_key_framed_by_one_is_a_pair_that_no_row_tells_apart(self):
        for marks, table in TABLES:
            if len(table[0]) > 1:
                self.assertIs(framed(marks, table, 1) is None, is_apart_up_to(marks, table, 2))

    def test_pairs_and_collisions(self):
        for marks, table in TABLES:
            for one, two in combinations(range(len(table[0])), 2):
                apart = number(apart_share(marks, table, (one, two)))
                self.assertEqual(apart, 1 - number(collision(marks, table, one, two)))


if __name__ == "__main__":
    unittest.main()
