"""Tables made of tables, against the words of the document, and what holds of their leans and evenness."""

import unittest
from itertools import permutations
from itertools import product as tuples

from seedtables.changes import exchanged, led, product, rows_beside, with_keys
from seedtables.leans import lean, likenesses
from seedtables.tables import is_even_on, is_table, strength
from tests import by_hand
from tests.by_hand import number, pair
from tests.samples import BIT, GREAT, MIXED, ODD, STRONG, TRIPLED, mixed_table, units, weighed_table, with_sum

STRONG_PAIRS = tuple((marks, table) for marks, table, _ in STRONG)
SMALL = tuple((marks, table) for marks, table in MIXED + STRONG_PAIRS if len(table) <= 16 and len(table[0]) <= 4)


class WithKeys(unittest.TestCase):
    def test_keys_in_any_order(self):
        for marks, table in SMALL:
            for size in range(1, len(table[0]) + 1):
                for keys in permutations(range(len(table[0])), size):
                    told = with_keys(marks, table, keys)
                    self.assertEqual(told, tuple(by_hand.at(row, keys) for row in table))
                    self.assertIs(is_table(marks, told), True)

    def test_of_great_tables(self):
        for marks, table in GREAT:
            for keys in ((7,), (0,), (5, 1), tuple(range(8)), (7, 6, 5, 4, 3, 2, 1, 0), (3, 0, 7, 1, 6)):
                self.assertEqual(with_keys(marks, table, keys), tuple(by_hand.at(row, keys) for row in table))

    def test_leans_are_those_of_these_keys(self):
        for marks, table in SMALL:
            for size in range(1, len(table[0]) + 1):
                for keys in permutations(range(len(table[0])), size):
                    told = with_keys(marks, table, keys)
                    for lot in by_hand.all_lots(size):
                        expected = lean(marks, table, tuple(sorted(keys[at] for at in lot)))
                        self.assertEqual(lean(marks, told, lot), expected)


class Exchanged(unittest.TestCase):
    def test_row_by_row(self):
        for marks, table in SMALL:
            for key in range(len(table[0])):
                for order in list(permutations(range(marks)))[:30]:
                    told = exchanged(marks, table, key, order)
                    for row, before in zip(told, table, strict=True):
                        expected = list(before)
                        expected[key] = order[before[key]]
                        self.assertEqual(row, tuple(expected))

    def test_of_one_row(self):
        self.assertEqual(exchanged(2, ((0, 1),), 0, (1, 0)), ((1, 1),))
        self.assertEqual(exchanged(5, ((4,),), 0, (1, 2, 3, 4, 0)), ((0,),))

    def test_changes_no_lean(self):
        for marks, table in SMALL:
            lots = by_hand.all_lots(len(table[0]))
            before = [lean(marks, table, lot) for lot in lots]
            for key in range(len(table[0])):
                told = exchanged(marks, table, key, tuple(range(1, marks)) + (0,))
                self.assertEqual([lean(marks, told, lot) for lot in lots], before)
                self.assertEqual(likenesses(marks, told), likenesses(marks, table))
                self.assertEqual(strength(marks, told), strength(marks, table))

    def test_back(self):
        for marks, table in GREAT:
            order = tuple((mark * 2 + 1) % marks for mark in range(marks)) if marks % 2 else tuple(range(marks))[::-1]
            back = tuple(order.index(mark) for mark in range(marks))
            for key in (0, 4, 7):
                there = exchanged(marks, table, key, order)
                self.assertNotEqual(there, table)
                self.assertEqual(exchanged(marks, there, key, back), table)
                self.assertEqual(exchanged(marks, table, key, tuple(range(marks))), table)


class RowsBeside(unittest.TestCase):
    def test_rows_of_both_the_first_ones_ahead(self):
        for marks in (2, 3, 4, 5):
            for keys in (1, 3, 8):
                table, other = mixed_table(marks, keys, 5, 3), mixed_table(marks, keys, 9, 4)
                told = rows_beside(marks, table, other)
                self.assertEqual(list(told), list(table) + list(other))
                self.assertEqual(list(rows_beside(marks, other, table)), list(other) + list(table))

    def test_even_where_both_are(self):
        for marks, table in STRONG_PAIRS:
            for other_marks, other in STRONG_PAIRS:
                if marks != other_marks or len(table[0]) != len(other[0]) or len(table) + len(other) > 128:
                    continue
                told = rows_beside(marks, table, other)
                for lot in by_hand.all_lots(min(len(table[0]), 5)):
                    if is_even_on(marks, table, lot) and is_even_on(marks, other, lot):
                        self.assertIs(is_even_on(marks, told, lot), True)
                self.assertGreaterEqual(strength(marks, told), min(strength(marks, table), strength(marks, other)))

    def test_may_be_even_where_neither_is(self):
        self.assertEqual(strength(2, rows_beside(2, TRIPLED, ODD)), 3)
        self.assertEqual(strength(2, rows_beside(2, BIT[:1], BIT[1:])), 1)


# Marks, and tables of up to four keys: some of them are even on all of their keys.
FACTORS = (
    (2, (BIT, TRIPLED, ODD, ((0,), (1,), (1,)), ((0, 1), (1, 0)), weighed_table(2, units(3)), with_sum(2, 3))),
    (3, (weighed_table(3, units(1)), weighed_table(3, units(2)), with_sum(3, 2), mixed_table(3, 2, 5, 1))),
    (4, (weighed_table(4, units(1)), with_sum(4, 1), with_sum(4, 2)[:8], mixed_table(4, 3, 4, 2))),
    (5, (weighed_table(5, units(1)), weighed_table(5, units(2)), with_sum(5, 1), mixed_table(5, 2, 4, 2))),
)


class Product(unittest.TestCase):
    def pairs(self):
        for marks, tables in FACTORS:
            for table, other in tuples(tables, repeat=2):
                if len(table) * len(other) <= 128:
                    yield marks, table, other, product(marks, table, other)

    def test_all_rows_of_the_one_with_all_of_the_other_one_behind(self):
        for marks, table, other, told in self.pairs():
            expected = []
            for row in table:
                for second in other:
                    expected.append(tuple(list(row) + list(second)))
            self.assertEqual(told, tuple(expected))
            self.assertIs(is_table(marks, told), True)

    def test_leans_are_products(self):
        for marks, table, other, told in self.pairs():
            keys = len(table[0])
            for lot in by_hand.all_lots(len(told[0])):
                one = lean(marks, table, tuple(key for key in lot if key < keys))
                two = lean(marks, other, tuple(key - keys for key in lot if key >= keys))
                self.assertEqual(lean(marks, told, lot), pair(number(one) * number(two)))

    def test_strength(self):
        seen = set()
        for marks, table, other, told in self.pairs():
            one, two = strength(marks, table), strength(marks, other)
            all_one, all_two = one == len(table[0]), two == len(other[0])
            if all_one and all_two:
                expected = one + two
            else:
                expected = min([size for size, is_all in ((one, all_one), (two, all_two)) if not is_all])
            self.assertEqual(strength(marks, told), expected)
            seen.add((all_one, all_two))
        self.assertEqual(len(seen), 4)


class Led(unittest.TestCase):
    def maps(self, marks):
        for fewer in [one for one in range(2, marks + 1) if marks % one == 0]:
            for images in tuples(range(fewer), repeat=marks):
                if all(images.count(mark) == marks // fewer for mark in range(fewer)):
                    yield fewer, images

    def test_row_by_row(self):
        for marks, table in SMALL:
            for fewer, images in list(self.maps(marks))[:30]:
                told = led(marks, table, fewer, images)
                expected = [tuple([images[mark] for mark in row]) for row in table]
                self.assertEqual(told, tuple(expected))
                self.assertIs(is_table(fewer, told), True)

    def test_even_where_it_was(self):
        for marks, table in STRONG_PAIRS:
            lots = [lot for lot in by_hand.all_lots(min(len(table[0]), 5)) if is_even_on(marks, table, lot)]
            for fewer, images in list(self.maps(marks))[::7]:
                told = led(marks, table, fewer, images)
                for lot in lots:
                    self.assertIs(is_even_on(fewer, told, lot), True)
                self.assertGreaterEqual(strength(fewer, told), strength(marks, table))

    def test_each_right_map_is_taken(self):
        expected = {(2, 2): 2, (3, 3): 6, (4, 2): 6, (4, 4): 24, (5, 5): 120}
        found = {}
        for marks in (2, 3, 4, 5):
            for fewer, images in self.maps(marks):
                self.assertEqual(led(marks, (tuple(range(marks)),), fewer, images), (images,))
                found[(marks, fewer)] = found.get((marks, fewer), 0) + 1
        self.assertEqual(found, expected)


if __name__ == "__main__":
    unittest.main()
