"""First keys, fairness and likeness against counting by hand, and what holds for all lots and orders."""

import unittest
from fractions import Fraction
from itertools import permutations, product
from math import comb, lcm

from seedtables.orders import (
    ahead_share, are_orders, fairness, first_shares, is_fair_on, likeness, made_orders, slant, slant_pair,
    told_likeness, unfair_lot,
)
from tests import oracle
from tests.by_hand import all_lots, number, pair
from tests.orders_by_rule import AGAIN, ALL, FREE, ORDERS, PARTLY, TURNED, turns, with_reverse

FEW = tuple(orders for orders in ORDERS if len(orders[0]) <= 4 or len(orders) <= 12)


def filled_lots(orders):
    return all_lots(len(orders[0]))[1:]


def first(order, lot):
    """The key of the lot at the least place."""
    return min(lot, key=order.index)


def share(orders, holds):
    return Fraction(len([order for order in orders if holds(order)]), len(orders))


def fair_up_to(orders):
    """The greatest size up to which all lots are fair, by all of them."""
    keys = len(orders[0])
    unfair = [len(lot) for lot in filled_lots(orders) if not oracle.is_fair_on(orders, lot)]
    return min(unfair, default=keys + 1) - 1


class AreOrders(unittest.TestCase):
    def test_orders(self):
        for orders in ORDERS:
            self.assertIs(are_orders(orders), True)

    def test_edges(self):
        for keys in range(9):
            order = tuple(range(keys))
            for many in (0, 1, 119, 120, 121, 200):
                self.assertIs(are_orders((order,) * many), 1 <= keys <= 6 and 1 <= many <= 120)

    def test_each_key_once(self):
        for keys in (1, 2, 3, 4):
            for order in product(range(-1, keys + 1), repeat=keys):
                right = sorted(order) == list(range(keys))
                self.assertIs(are_orders((order,)), right)
                self.assertIs(are_orders((tuple(range(keys)), order)), right)


class FirstKeys(unittest.TestCase):
    def test_shares_counted_by_hand(self):
        for orders in ORDERS:
            for lot in filled_lots(orders):
                expected = tuple(pair(share(orders, lambda order: first(order, lot) == key)) for key in lot)
                self.assertEqual(first_shares(orders, lot), expected)

    def test_shares_have_the_sum_1(self):
        for orders in FREE:
            for lot in filled_lots(orders):
                self.assertEqual(sum(map(number, first_shares(orders, lot))), 1)

    def test_lots_of_one_key(self):
        for orders in ORDERS:
            for key in range(len(orders[0])):
                self.assertEqual(first_shares(orders, (key,)), ((1, 1),))
                self.assertIs(is_fair_on(orders, (key,)), True)


class Fairness(unittest.TestCase):
    def test_on_each_lot(self):
        for orders in ORDERS:
            for lot in filled_lots(orders):
                told = first_shares(orders, lot)
                self.assertIs(is_fair_on(orders, lot), len(set(told)) == 1)
                self.assertIs(is_fair_on(orders, lot), oracle.is_fair_on(orders, lot))

    def test_on_all_lots_up_to_it(self):
        seen = set()
        for orders in ORDERS:
            self.assertEqual(fairness(orders), fair_up_to(orders))
            seen.add((len(orders[0]), fairness(orders)))
        self.assertGreater(len(seen), 12)

    def test_number_of_orders_is_a_multiple(self):
        for orders in ORDERS:
            self.assertEqual(len(orders) % lcm(*range(1, fairness(orders) + 1)), 0)

    def test_unfair_lot(self):
        for orders in ORDERS:
            lot = unfair_lot(orders)
            if lot is None:
                self.assertEqual(fair_up_to(orders), len(orders[0]))
            else:
                self.assertIn(lot, filled_lots(orders))
                self.assertFalse(oracle.is_fair_on(orders, lot))

    def test_known_ones(self):
        for keys in range(1, 7):
            self.assertEqual(fairness((tuple(range(keys)),)), 1)
            self.assertEqual(fairness(with_reverse((tuple(range(keys)),))), min(keys, 2))
        for keys, orders in enumerate(ALL, 1):
            self.assertEqual(fairness(orders), keys)
            self.assertIsNone(unfair_lot(orders))
        # Turns are fair on the lot of all keys, but not on two.
        for orders in TURNED[2:]:
            self.assertEqual(fairness(orders), 1)
            self.assertIs(is_fair_on(orders, tuple(range(len(orders[0])))), True)
        self.assertEqual([fairness(orders) for orders in AGAIN], [3, 4, 1, 1, 1])
        self.assertEqual([fairness(orders) for orders in PARTLY], [2, 2, 4])

    def test_order_of_orders_is_no_matter(self):
        for orders in FEW:
            self.assertEqual(fairness(orders[::-1]), fairness(orders))
            self.assertEqual(slant(orders[::-1], len(orders[0])), slant(orders, len(orders[0])))


class Ahead(unittest.TestCase):
    def test_counted_by_hand(self):
        for orders in ORDERS:
            for lot in all_lots(len(orders[0])):
                for key in range(len(orders[0])):
                    if key not in lot:
                        expected = share(orders, lambda order: set(order[:order.index(key)]) == set(lot))
                        self.assertEqual(ahead_share(orders, lot, key), pair(expected))

    def test_just_so_exactly_if_fair_on_all_lots(self):
        both = {True: 0, False: 0}
        for orders in ORDERS + tuple(made_orders(keys) for keys in range(1, 7)):
            n = len(orders[0])
            just = all(
                ahead_share(orders, lot, key) == pair(Fraction(1, comb(n, len(lot)) * (n - len(lot))))
                for lot in all_lots(n)[:-1] for key in range(n) if key not in lot
            )
            self.assertIs(just, fairness(orders) == n)
            self.assertIs(just, unfair_lot(orders) is None)
            both[just] += 1
        self.assertGreater(min(both.values()), 10)

    def test_first_shares_are_sums_of_them(self):
        for orders in FEW:
            keys = range(len(orders[0]))
            for lot in filled_lots(orders):
                told = first_shares(orders, lot)
                for key, expected in zip(lot, told):
                    others = [one for one in all_lots(len(orders[0])) if not set(one) & set(lot)]
                    total = sum(number(ahead_share(orders, one, key)) for one in others)
                    self.assertEqual(pair(total), expected)
            self.assertEqual(sum(number(ahead_share(orders, (), key)) for key in keys), 1)


class Made(unittest.TestCase):
    def test_as_many_as_told_and_fair_on_all_lots(self):
        for keys, many in ((1, 1), (2, 2), (3, 6), (4, 12), (5, 60), (6, 60)):
            orders = made_orders(keys)
            self.assertIs(type(orders), tuple)
            self.assertEqual(len(orders), many)
            self.assertEqual(many, lcm(*range(1, keys + 1)))
            for order in orders:
                self.assertIs(type(order), tuple)
                self.assertEqual(sorted(order), list(range(keys)))
            for lot in all_lots(keys)[1:]:
                self.assertTrue(oracle.is_fair_on(orders, lot))
            self.assertIs(are_orders(orders), True)
            self.assertEqual(fairness(orders), keys)
            self.assertIsNone(unfair_lot(orders))
            self.assertEqual(slant(orders, keys), (0, 1))

    def test_each_lot_is_passed_as_often(self):
        for keys in range(1, 7):
            orders = made_orders(keys)
            for lot in all_lots(keys):
                passed = [order for order in orders if set(order[:len(lot)]) == set(lot)]
                self.assertEqual(len(passed) * comb(keys, len(lot)), len(orders))


class Likeness(unittest.TestCase):
    def test_counted_by_hand(self):
        for orders in FEW:
            for lot, other in product(filled_lots(orders), repeat=2):
                self.assertEqual(likeness(orders, lot, other), pair(oracle.likeness(lot, other)))
                expected = share(orders, lambda order: first(order, lot) == first(order, other))
                self.assertEqual(told_likeness(orders, lot, other), pair(expected))

    def test_of_six_keys(self):
        orders = FREE[-2]
        lots = filled_lots(orders)
        for lot, other in list(product(lots, repeat=2))[::11]:
            self.assertEqual(likeness(orders, lot, other), pair(oracle.likeness(lot, other)))
            self.assertEqual(told_likeness(orders, lot, other), pair(oracle.told_likeness(orders, lot, other)))

    def test_edges(self):
        for orders in FEW:
            for lot in filled_lots(orders):
                self.assertEqual(likeness(orders, lot, lot), (1, 1))
                self.assertEqual(told_likeness(orders, lot, lot), (1, 1))
                rest = tuple(key for key in range(len(orders[0])) if key not in lot)
                if rest:
                    self.assertEqual(likeness(orders, lot, rest), (0, 1))
                    self.assertEqual(told_likeness(orders, lot, rest), (0, 1))

    def test_right_for_all_lots_exactly_up_to_the_fairness(self):
        for orders in FEW + tuple(made_orders(keys) for keys in range(1, 5)):
            lots, fair = filled_lots(orders), fairness(orders)
            wrong = [
                len(set(lot) | set(other)) for lot, other in product(lots, repeat=2)
                if told_likeness(orders, lot, other) != likeness(orders, lot, other)
            ]
            self.assertEqual(min(wrong, default=len(orders[0]) + 1), fair + 1)


class Slant(unittest.TestCase):
    def by_hand(self, orders, size):
        far = [Fraction(0)]
        for lot in filled_lots(orders):
            if len(lot) <= size:
                for key in lot:
                    far.append(abs(len(lot) * share(orders, lambda order: first(order, lot) == key) - 1))
        return max(far)

    def test_counted_by_hand_at_each_size(self):
        for orders in FEW:
            for size in range(1, len(orders[0]) + 1):
                self.assertEqual(slant(orders, size), pair(self.by_hand(orders, size)))

    def test_pair_that_has_it(self):
        for orders in ORDERS:
            for size in range(1, len(orders[0]) + 1):
                told = slant_pair(orders, size)
                self.assertIs(type(told), tuple)
                lot, other = told
                self.assertIn(lot, filled_lots(orders))
                self.assertIn(other, filled_lots(orders))
                self.assertLessEqual(len(set(lot) | set(other)), size)
                like = oracle.likeness(lot, other)
                self.assertGreater(like, 0)
                far = abs(oracle.told_likeness(orders, lot, other) - like)
                self.assertEqual(far, number(slant(orders, size)) * like)

    def test_bounds_all_pairs_of_lots(self):
        for orders in FEW:
            lots = filled_lots(orders)
            told = [number(slant(orders, size)) for size in range(1, len(orders[0]) + 1)]
            self.assertEqual(told, sorted(told))
            for lot, other in product(lots, repeat=2):
                like = oracle.likeness(lot, other)
                far = abs(number(told_likeness(orders, lot, other)) - like)
                self.assertLessEqual(far, told[len(set(lot) | set(other)) - 1] * like)

    def test_nought_exactly_up_to_the_fairness(self):
        for orders in ORDERS:
            fair = fairness(orders)
            for size in range(1, len(orders[0]) + 1):
                self.assertIs(slant(orders, size) == (0, 1), size <= fair)

    def test_known_ones(self):
        for keys in range(2, 7):
            one = (tuple(range(keys)),)
            # The first key of all of them is first in each order: so many times as often as it should be.
            self.assertEqual(slant(one, keys), (keys - 1, 1))
            self.assertEqual(slant(turns(one[0]), 2), pair(Fraction(keys - 2, keys)))
        self.assertEqual(slant(tuple(permutations(range(5))), 5), (0, 1))


if __name__ == "__main__":
    unittest.main()
