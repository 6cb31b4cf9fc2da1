"""The worked examples of the document, value by value, under the names that stand there."""

import unittest

from seedtables.apart import apart_share, blind_lot, framed, is_apart_up_to, is_parted, rows_let
from seedtables.certificates import certify_even, certify_mean
from seedtables.changes import exchanged, led, product, rows_beside, with_keys
from seedtables.checker import accepts
from seedtables.collisions import collision, least_worst, reaches_least, worst_collision, worst_pair
from seedtables.counts import (
    all_counts, all_powers, are_even_shares, bounding_polynomial, counted, even_mean, even_shares, falling_mean,
    greatest_mean, least_mean, mean_of, reaching_shares, table_of,
)
from seedtables.errors import TooMany
from seedtables.fewest import fewest_rows, least_shares, least_sum, price_bound, rao_number, row_prices
from seedtables.leans import lean, likenesses, transform, unevenness
from seedtables.made import behind, free_strength, polynomial_table, straight_table, sums_table, tie_of
from seedtables.orders import (
    ahead_share, are_orders, fairness, first_shares, is_fair_on, likeness, made_orders, slant, slant_pair,
    told_likeness, unfair_lot,
)
from seedtables.seals import best_forgery, forged_share, forging_chance, worst_forging
from seedtables.single import at_least, bounding_single, greatest_single, least_single, reaching_single
from seedtables.sources import least_size, like_chance, off, off_bound, worst_lot, worst_off
from seedtables.tables import is_even_on, is_table, pattern_counts, strength, uneven_lot

bit, lines = ((0,), (1,)), ((0, 0), (1, 1), (2, 2))
tripled, odd = ((0, 0, 0), (0, 1, 1), (1, 0, 1), (1, 1, 0)), ((0, 0, 1), (0, 1, 0), (1, 0, 0), (1, 1, 1))
nil, one, half, quarter, third = (0, 1), (1, 1), (1, 2), (1, 4), (1, 3)
alone = (nil, nil, nil, one)
pairs = ((0, 0), (0, 1), (1, 1), (1, 0))
square = ((0, 0), (0, 1), (1, 0), (1, 1))
thirds = ((0, 0, 1), (0, 1, 0), (1, 0, 0))
plane = ((0, 0, 0), (0, 1, 1), (1, 0, 1), (1, 1, 0))
turns = ((0, 1, 2), (1, 2, 0), (2, 0, 1))
figures = ((0, 0, 1, 1), (0, 1, 0, 1))


class Tables(unittest.TestCase):
    def test_is_table(self):
        self.assertIs(is_table(2, tripled), True)
        self.assertIs(is_table(2, lines), False)
        self.assertIs(is_table(3, ()), False)

    def test_pattern_counts(self):
        self.assertEqual(pattern_counts(2, tripled, (0, 2)), (1, 1, 1, 1))
        self.assertEqual(pattern_counts(2, tripled, (0, 1, 2)), (1, 0, 0, 1, 0, 1, 1, 0))
        self.assertEqual(pattern_counts(3, lines, ()), (3,))

    def test_is_even_on(self):
        self.assertIs(is_even_on(2, tripled, (0, 1)), True)
        self.assertIs(is_even_on(2, tripled, (0, 1, 2)), False)

    def test_strength(self):
        self.assertEqual(strength(2, tripled), 2)
        self.assertEqual(strength(3, lines), 1)
        self.assertEqual(strength(2, bit), 1)

    def test_uneven_lot(self):
        self.assertIsNone(uneven_lot(2, tripled, 2))
        self.assertEqual(uneven_lot(2, tripled, 3)[0], (0, 1, 2))


class Leans(unittest.TestCase):
    def test_lean(self):
        self.assertEqual(lean(2, tripled, (0, 1)), (0, 1))
        self.assertEqual(lean(2, tripled, (0, 1, 2)), (1, 1))
        self.assertEqual(lean(3, lines, (0, 1)), (2, 1))
        self.assertEqual(lean(3, lines, ()), (1, 1))

    def test_unevenness(self):
        self.assertEqual(unevenness(2, tripled, (0, 1, 2)), (2, 1))
        self.assertEqual(unevenness(3, lines, (0, 1)), (2, 1))

    def test_likenesses(self):
        self.assertEqual(likenesses(2, tripled), (4, 0, 12, 0))
        self.assertEqual(likenesses(3, lines), (3, 0, 6))

    def test_transform(self):
        self.assertEqual(transform(2, tripled), ((1, 1), (0, 1), (0, 1), (1, 1)))
        self.assertEqual(transform(3, lines), ((1, 1), (0, 1), (2, 1)))


class Changes(unittest.TestCase):
    def test_with_keys(self):
        self.assertEqual(with_keys(2, tripled, (2, 0)), ((0, 0), (1, 0), (1, 1), (0, 1)))

    def test_exchanged(self):
        self.assertEqual(exchanged(2, tripled, 2, (1, 0)), ((0, 0, 1), (0, 1, 0), (1, 0, 0), (1, 1, 1)))

    def test_rows_beside(self):
        self.assertEqual(strength(2, rows_beside(2, tripled, odd)), 3)

    def test_product(self):
        self.assertEqual(product(2, bit, bit), ((0, 0), (0, 1), (1, 0), (1, 1)))
        self.assertEqual(strength(2, product(2, tripled, bit)), 2)

    def test_led(self):
        self.assertEqual(led(4, ((0,), (1,), (2,), (3,)), 2, (0, 1, 1, 0)), ((0,), (1,), (1,), (0,)))


class Counts(unittest.TestCase):
    def test_counts_and_powers(self):
        self.assertEqual(all_counts(2, 3), ((0, 3), (1, 2), (2, 1), (3, 0)))
        self.assertEqual(all_powers(3, 4, 1), ((0, 0), (0, 1), (1, 0)))

    def test_even_ones(self):
        self.assertEqual(even_mean(2, 3, (2,)), (3, 4))
        self.assertEqual(even_shares(2, 2), ((1, 4), (1, 2), (1, 4)))

    def test_counted(self):
        self.assertEqual(counted(2, tripled, (0, 1, 2)), ((0, 1), (3, 4), (0, 1), (1, 4)))

    def test_falling_mean(self):
        self.assertEqual(falling_mean(2, 3, (quarter, nil, (3, 4), nil), (1,)), (3, 2))

    def test_greatest_and_least_means(self):
        self.assertEqual(greatest_mean(2, 3, 2, alone), (1, 4))
        self.assertEqual(least_mean(2, 3, 2, alone), (0, 1))
        self.assertEqual(reaching_shares(2, 3, 2, alone), ((0, 1), (3, 4), (0, 1), (1, 4)))
        self.assertEqual(len(bounding_polynomial(2, 3, 2, alone)), 3)
        self.assertEqual(greatest_mean(2, 3, 1, alone), (1, 2))
        self.assertEqual(greatest_mean(2, 3, 2, (one, nil, nil, one)), (1, 4))
        self.assertEqual(least_mean(2, 3, 2, (one, nil, nil, one)), (1, 4))
        self.assertEqual(greatest_mean(2, 3, 3, alone), (1, 8))

    def test_are_even_shares(self):
        self.assertIs(are_even_shares(2, 3, 2, (quarter, nil, (3, 4), nil)), True)
        self.assertIs(are_even_shares(2, 3, 3, (quarter, nil, (3, 4), nil)), False)

    def test_mean_of(self):
        self.assertEqual(mean_of(2, 3, even_shares(2, 3), alone), (1, 8))

    def test_table_of(self):
        self.assertEqual(table_of(2, 3, (nil, (3, 4), nil, quarter)), tripled)


class Single(unittest.TestCase):
    def test_at_least(self):
        self.assertEqual(at_least(3, 2), ((0, 1), (0, 1), (1, 1), (1, 1)))

    def test_greatest_and_least(self):
        self.assertEqual(greatest_single(2, 3, 2, alone), (1, 4))
        self.assertEqual(greatest_single(10, 10, 1, at_least(10, 5)), (1, 5))
        self.assertEqual(bounding_single(10, 10, 1, at_least(10, 5)), ((0, 1), (1, 5)))
        self.assertEqual(greatest_single(10, 10, 2, at_least(10, 10)), (1, 100))
        self.assertEqual(least_single(2, 4, 2, at_least(4, 1)), (5, 6))

    def test_reaching_single_by_hand(self):
        # With the least mean of at_least(4, 1), 1 / 6 at 0, 1 / 2 at 2, 1 / 3 at 3 or likewise 1, 2 and 4.
        others = tuple((-above, below) for above, below in at_least(4, 1))
        self.assertEqual(reaching_single(2, 4, 2, others)[0], (1, 6))


class Made(unittest.TestCase):
    def test_polynomial_tables(self):
        self.assertEqual(polynomial_table(2, 2, 2), pairs)
        self.assertEqual(polynomial_table(3, 1, 2), ((0, 0), (1, 1), (2, 2)))
        self.assertEqual(len(polynomial_table(5, 3, 4)), 125)
        with self.assertRaises(TooMany) as caught:
            polynomial_table(5, 4, 5)
        self.assertEqual(caught.exception.given, 625)

    def test_straight_table(self):
        self.assertEqual(straight_table(2, ((0,), (1,))), ((0, 0), (1, 1), (0, 1), (1, 0)))

    def test_ties(self):
        self.assertEqual(free_strength(2, square), 3)
        self.assertEqual(free_strength(3, ((1,), (1,))), 1)
        self.assertEqual(tie_of(2, square, (0, 1, 2, 3)), (1, 1, 1, 1))
        self.assertIsNone(tie_of(2, square, (0, 1, 2)))
        self.assertIn(tie_of(3, ((1,), (1,)), (0, 1)), ((1, 2), (2, 1)))

    def test_sums_table(self):
        self.assertEqual(sums_table(2, ((0, 0), (0, 1)), ((0, 1),)), ((0, 1, 0, 1), (0, 1, 1, 0)))

    def test_behind(self):
        self.assertEqual(behind(2, ((0, 0), (0, 1)), 2, ((0, 1), (0, 0))), ((0, 0), (0, 0), (0, 1), (0, 0)))


class Fewest(unittest.TestCase):
    def test_rao_number(self):
        self.assertEqual(rao_number(2, 3, 2), 4)
        self.assertEqual(rao_number(2, 4, 3), 8)
        self.assertEqual(rao_number(3, 4, 2), 9)
        self.assertEqual(rao_number(5, 12, 0), 1)
        self.assertEqual(rao_number(2, 5, 2), 6)

    def test_least_sum(self):
        self.assertEqual(least_sum(2, 2, 2), (4, 1))
        self.assertEqual(least_shares(2, 2, 2), ((1, 1), (2, 1), (1, 1)))
        self.assertEqual(least_sum(2, 3, 2), (4, 1))
        self.assertEqual(least_shares(2, 3, 2), ((1, 1), (0, 1), (3, 1), (0, 1)))
        self.assertEqual(fewest_rows(2, 5, 2), 8)
        self.assertEqual(fewest_rows(3, 2, 1), 3)

    def test_prices(self):
        self.assertEqual(price_bound(2, 3, 2, ((1, 2), (1, 2), (0, 1))), (4, 1))
        self.assertEqual(price_bound(2, 3, 2, row_prices(2, 3, 2)), (4, 1))


class Collisions(unittest.TestCase):
    def test_collisions(self):
        self.assertEqual(collision(2, pairs, 0, 1), (1, 2))
        self.assertEqual(collision(2, pairs, 1, 1), (1, 1))
        self.assertEqual(worst_collision(2, thirds), (1, 3))
        self.assertEqual(worst_pair(2, thirds), (0, 1))
        self.assertEqual(worst_collision(2, ((0,), (1,))), (0, 1))

    def test_least_worst(self):
        self.assertEqual(least_worst(2, 2), (0, 1))
        self.assertEqual(least_worst(2, 3), (1, 3))
        self.assertEqual(least_worst(2, 4), (1, 3))
        self.assertEqual(least_worst(5, 60), (11, 59))
        self.assertIs(reaches_least(2, thirds), True)
        self.assertIs(reaches_least(2, ((0, 1),)), True)
        self.assertIs(reaches_least(2, pairs), False)


class Sources(unittest.TestCase):
    def test_of_a_source(self):
        self.assertEqual(off(2, plane, (half, half, nil)), (1, 4))
        self.assertEqual(like_chance(2, plane, (half, half, nil)), (3, 4))
        self.assertEqual(off_bound(2, plane, (half, half, nil)), (1, 8))
        self.assertEqual(off(2, plane, (third, third, third)), (1, 4))

    def test_of_all_sources(self):
        self.assertEqual(worst_off(2, plane, 1), (1, 2))
        self.assertEqual(worst_off(2, plane, 2), (1, 4))
        self.assertEqual(worst_off(2, plane, 3), (1, 4))
        self.assertEqual(len(worst_lot(2, plane, 2)), 2)
        self.assertEqual(least_size(2, plane, (1, 4)), 2)
        self.assertIsNone(least_size(2, plane, (1, 5)))


class Seals(unittest.TestCase):
    def test_forging(self):
        self.assertEqual(forging_chance(2, plane, ()), (1, 2))
        self.assertEqual(forging_chance(2, plane, (0,)), (1, 2))
        expected = (((0, 0), 2, 0), ((0, 1), 2, 1), ((1, 0), 2, 1), ((1, 1), 2, 0))
        self.assertEqual(best_forgery(2, plane, (0, 1)), expected)
        self.assertEqual(worst_forging(2, plane, 0), (1, 2))
        self.assertEqual(worst_forging(2, plane, 1), (1, 2))
        self.assertEqual(worst_forging(2, plane, 2), (1, 1))
        self.assertEqual(forged_share(2, plane, (0,), (((0,), 1, 0), ((1,), 1, 0))), (1, 2))
        self.assertEqual(forging_chance(3, plane, ()), (1, 2))


class Orders(unittest.TestCase):
    def test_first_keys_and_fairness(self):
        self.assertIs(are_orders(turns), True)
        self.assertIs(are_orders(((0, 0),)), False)
        self.assertEqual(first_shares(turns, (0, 1)), ((2, 3), (1, 3)))
        self.assertIs(is_fair_on(turns, (0, 1, 2)), True)
        self.assertEqual(fairness(turns), 1)
        self.assertEqual(len(unfair_lot(turns)), 2)
        self.assertEqual(ahead_share(turns, (0,), 1), (1, 3))
        self.assertEqual(ahead_share(turns, (), 1), (1, 3))

    def test_made_orders(self):
        self.assertEqual(len(made_orders(4)), 12)
        self.assertEqual(fairness(made_orders(4)), 4)
        self.assertEqual(sorted(made_orders(2)), [(0, 1), (1, 0)])
        self.assertIsNone(unfair_lot(made_orders(3)))

    def test_likeness(self):
        self.assertEqual(likeness(turns, (0, 1), (1, 2)), (1, 3))
        self.assertEqual(told_likeness(turns, (0, 1), (1, 2)), (1, 3))
        self.assertEqual(likeness(turns, (0, 1), (0,)), (1, 2))
        self.assertEqual(told_likeness(turns, (0, 1), (0,)), (2, 3))
        self.assertEqual(slant(turns, 1), (0, 1))
        self.assertEqual(slant(turns, 3), (1, 3))
        self.assertEqual(len(slant_pair(turns, 2)), 2)


class Apart(unittest.TestCase):
    def test_telling_apart(self):
        self.assertEqual(apart_share(2, plane, (0, 1)), (1, 2))
        self.assertIs(is_apart_up_to(2, figures, 2), True)
        self.assertIs(is_apart_up_to(2, plane, 3), False)
        self.assertEqual(blind_lot(2, plane, 3), (0, 1, 2))
        self.assertIsNone(blind_lot(2, figures, 2))

    def test_parting(self):
        self.assertIs(is_parted(2, figures, (0,), (1, 2)), False)
        self.assertIs(is_parted(2, figures, (0, 1), (2, 3)), True)
        self.assertIsNone(framed(2, figures, 1))
        key, lot = framed(2, figures, 2)
        self.assertIs(is_parted(2, figures, (key,), lot), False)

    def test_rows_let(self):
        self.assertEqual(rows_let(2, 4, 2), 2)
        self.assertEqual(rows_let(2, 5, 2), 3)
        self.assertEqual(rows_let(3, 8, 3), 4)
        self.assertIsNone(rows_let(2, 4, 3))


class Certificates(unittest.TestCase):
    def test_certificates(self):
        claim = ("even", 2, ((0, 0, 0), (0, 1, 1), (1, 0, 1), (1, 1, 0)), 2)
        self.assertEqual(certify_even(2, tripled, 2), (claim, ()))
        self.assertEqual(certify_even(2, tripled, 3)[0][0], "uneven")
        self.assertEqual(certify_mean(2, 3, 2, alone, quarter)[0][0], "mean up to")
        self.assertEqual(certify_mean(2, 3, 2, alone, (1, 5))[0][0], "mean above")

    def test_checker(self):
        self.assertIs(accepts(("mean up to", 2, 3, 2, alone, quarter), (nil, nil, (1, 3))), True)
        shares = (nil, (3, 4), nil, quarter)
        self.assertIs(accepts(("mean above", 2, 3, 2, alone, (1, 5)), shares), True)
        self.assertIs(accepts(("even", 2, tripled, 3), ()), False)
        self.assertIs(accepts(("even", 2, tripled, 2), []), False)


if __name__ == "__main__":
    unittest.main()
