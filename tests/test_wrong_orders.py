"""What orders.py and apart.py tell of wrong arguments."""

import unittest
from itertools import product

from seedtables.apart import apart_share, blind_lot, framed, is_apart_up_to, is_parted, rows_let
from seedtables.errors import InvalidKey, InvalidLot, InvalidMarks, InvalidNumber, InvalidOrders, InvalidTable
from seedtables.orders import (
    ahead_share, are_orders, fairness, first_shares, is_fair_on, likeness, made_orders, slant, slant_pair,
    told_likeness, unfair_lot,
)
from tests import wrong
from tests.by_hand import all_lots
from tests.orders_by_rule import free_orders
from tests.samples import BIT, GREAT, TRIPLED, mixed_table

ORDERS = free_orders(3, 9, 4)
OF_LOT = (first_shares, is_fair_on)
OF_TWO = (likeness, told_likeness)
OF_SIZE = (slant, slant_pair)
APART_SIZE = (is_apart_up_to, blind_lot)


def wrong_further_keys(keys, lot):
    """Of what is no key that is not in the lot."""
    return wrong.wrong_keys(keys) + wrong.given(InvalidKey, list(lot))


class Orders(wrong.Told):
    def test_orders_alone(self):
        for function in (fairness, unfair_lot):
            self.all_wrong_are_told(function, (ORDERS,), [wrong.wrong_rows_of_orders()])

    def test_are_orders_is_told_of_any_value(self):
        for value, _ in wrong.no_orders():
            self.assertIs(are_orders(value), False)
        right = (((0,),),)
        for value in wrong.any_values():
            self.assertIs(are_orders(value), type(value) is tuple and value in right)

    def test_lots(self):
        for function in OF_LOT:
            ways = [wrong.wrong_rows_of_orders(), wrong.wrong_filled_lots(3)]
            self.all_wrong_are_told(function, (ORDERS, (0, 2)), ways)

    def test_two_lots(self):
        for function in OF_TWO:
            ways = [wrong.wrong_rows_of_orders(), wrong.wrong_filled_lots(3), wrong.wrong_filled_lots(3)]
            self.all_wrong_are_told(function, (ORDERS, (0, 2), (1,)), ways)

    def test_ahead_share(self):
        for lot, key in (((), 0), ((1,), 2), ((0, 2), 1)):
            ways = [wrong.wrong_rows_of_orders(), wrong.wrong_lots(3), wrong_further_keys(3, lot)]
            self.all_wrong_are_told(ahead_share, (ORDERS, lot, key), ways)
        # Behind all keys there is none.
        for key in (0, 1, 2, 3, -1, None):
            self.told(InvalidKey, "given", key, ahead_share, ORDERS, (0, 1, 2), key)

    def test_sizes(self):
        for function in OF_SIZE:
            self.all_wrong_are_told(function, (ORDERS, 3), [wrong.wrong_rows_of_orders(), wrong.wrong_numbers(1, 3)])

    def test_made_orders(self):
        self.all_wrong_are_told(made_orders, (4,), [wrong.wrong_numbers(1, 6)])

    def test_just_inside_and_outside(self):
        for keys in (1, 6, 7):
            for many in (1, 120, 121):
                orders = (tuple(range(keys)),) * many
                calls = [(fairness, ()), (unfair_lot, ()), (ahead_share, ((), 0))]
                calls += [(function, ((0,),)) for function in OF_LOT] + [(function, (1,)) for function in OF_SIZE]
                calls += [(function, ((0,), (0,))) for function in OF_TWO]
                for function, rest in calls:
                    if keys <= 6 and many <= 120:
                        function(orders, *rest)
                    else:
                        index = 0 if keys == 7 else 120
                        self.told(InvalidOrders, "index", index, function, orders, *rest)
        for keys in range(1, 7):
            orders = (tuple(range(keys)),)
            for function in OF_SIZE:
                function(orders, keys)
                self.told(InvalidNumber, "given", keys + 1, function, orders, keys + 1)
                self.told(InvalidNumber, "given", 0, function, orders, 0)
            made_orders(keys)
        for keys in (0, 7, -1):
            self.told(InvalidNumber, "given", keys, made_orders, keys)

    def test_just_the_ascending_tuples_of_keys_are_lots(self):
        right = all_lots(3)
        for size in range(5):
            for value in product(range(-1, 4), repeat=size):
                for function in OF_LOT:
                    if value in right and value != ():
                        function(ORDERS, value)
                    else:
                        self.told(InvalidLot, "given", value, function, ORDERS, value)
                for function in OF_TWO:
                    if value in right and value != ():
                        function(ORDERS, value, (0,))
                    else:
                        self.told(InvalidLot, "given", value, function, ORDERS, (0,), value)

    def test_wrong_order_ahead_of_too_many(self):
        good = (0, 1)
        self.told(InvalidOrders, "index", 119, fairness, (good,) * 119 + ((0, 2),) + (good,) * 9)
        self.told(InvalidOrders, "index", 120, fairness, (good,) * 120 + ((0, 2),))
        self.told(InvalidOrders, "index", 1, fairness, ((0,), good))


class Apart(wrong.Told):
    def test_apart_share(self):
        for marks, keys in ((2, 1), (3, 5), (5, 8)):
            ways = [wrong.wrong_marks(), wrong.wrong_table_ways(marks), wrong.wrong_lots(keys)]
            self.all_wrong_are_told(apart_share, (marks, mixed_table(marks, keys, 7, 1), (0,)), ways)

    def test_sizes(self):
        for marks, keys in ((2, 1), (3, 5), (5, 8)):
            ways = [wrong.wrong_marks(), wrong.wrong_table_ways(marks), wrong.wrong_numbers(1, keys)]
            for function in APART_SIZE:
                self.all_wrong_are_told(function, (marks, mixed_table(marks, keys, 7, 1), keys), ways)

    def test_is_parted(self):
        for marks, keys in ((2, 2), (3, 5), (5, 8)):
            lot = (0,)
            with_lot = [one for one in all_lots(keys) if 0 in one]
            ways = [
                wrong.wrong_marks(), wrong.wrong_table_ways(marks), wrong.wrong_lots(keys),
                wrong.wrong_lots(keys) + wrong.given(InvalidLot, with_lot[:20]),
            ]
            self.all_wrong_are_told(is_parted, (marks, mixed_table(marks, keys, 7, 1), lot, (1,)), ways)

    def test_framed(self):
        for marks, keys in ((2, 2), (3, 5), (5, 8)):
            ways = [wrong.wrong_marks(), wrong.wrong_table_ways(marks), wrong.wrong_numbers(1, keys - 1)]
            self.all_wrong_are_told(framed, (marks, mixed_table(marks, keys, 7, 1), 1), ways)

    def test_no_size_frames_a_key_alone(self):
        for size in (-1, 0, 1, 2, None, True):
            self.told(InvalidNumber, "given", size, framed, 2, BIT, size)
        self.told(InvalidTable, "index", 0, framed, 2, ((2,),), 1)

    def test_rows_let(self):
        for keys, most in ((2, 2), (4, 4), (5, 5), (6, 5), (10 ** 6, 5)):
            ways = [wrong.wrong_marks(), wrong.wrong_numbers(2, 10 ** 6), wrong.wrong_numbers(2, most)]
            self.all_wrong_are_told(rows_let, (3, keys, 2), ways)

    def test_just_inside_and_outside(self):
        for marks, table in GREAT:
            for function in APART_SIZE:
                function(marks, table, 1)
                function(marks, table, 8)
                self.told(InvalidNumber, "given", 0, function, marks, table, 0)
                self.told(InvalidNumber, "given", 9, function, marks, table, 9)
            framed(marks, table, 1)
            framed(marks, table, 7)
            self.told(InvalidNumber, "given", 0, framed, marks, table, 0)
            self.told(InvalidNumber, "given", 8, framed, marks, table, 8)
        for marks in (2, 3, 4, 5):
            rows_let(marks, 2, 2)
            rows_let(marks, 10 ** 6, 5)
            for keys in (1, 0, 10 ** 6 + 1):
                self.told(InvalidNumber, "given", keys, rows_let, marks, keys, 2)
            for keys in (2, 3, 4, 5, 6, 100):
                for size in range(-1, 8):
                    if 2 <= size <= min(5, keys):
                        rows_let(marks, keys, size)
                    else:
                        self.told(InvalidNumber, "given", size, rows_let, marks, keys, size)

    def test_lots_with_a_common_key(self):
        for lot, other in (((0,), (0,)), ((0, 1), (1, 2)), ((0, 1, 2), (2,)), ((2,), (0, 1, 2))):
            self.told(InvalidLot, "given", other, is_parted, 2, TRIPLED, lot, other)
        self.told(InvalidLot, "given", (3,), is_parted, 2, TRIPLED, (3,), (3,))
        self.told(InvalidLot, "given", (1, 0), is_parted, 2, TRIPLED, (0,), (1, 0))
        self.told(InvalidMarks, "given", 7, is_parted, 7, None, (3,), (3,))


if __name__ == "__main__":
    unittest.main()
