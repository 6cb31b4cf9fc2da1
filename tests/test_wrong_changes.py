"""What changes.py tells of wrong arguments."""

import unittest

from seedtables.changes import exchanged, led, product, rows_beside, with_keys
from seedtables.errors import (
    InvalidKey, InvalidKeys, InvalidMap, InvalidMarks, InvalidOrder, InvalidTable, TooMany, UnlikeTables,
)
from tests import wrong
from tests.samples import BIT, LINES, TRIPLED, mixed_table

FOURS = ((0, 1), (2, 3), (3, 3))


class Wrong(wrong.Told):
    def test_with_keys(self):
        for keys in (2, 3, 8):
            right = (3, mixed_table(3, keys, 6, 4), (1, 0))
            ways = [wrong.wrong_marks(), wrong.wrong_table_ways(3), wrong.wrong_rows_of_keys(keys)]
            self.all_wrong_are_told(with_keys, right, ways)

    def test_exchanged(self):
        for marks in (2, 3, 4, 5):
            right = (marks, mixed_table(marks, 4, 6, 4), 3, tuple(range(marks))[::-1])
            ways = [
                wrong.wrong_marks(), wrong.wrong_table_ways(marks), wrong.wrong_keys(4), wrong.wrong_orders(marks),
            ]
            self.all_wrong_are_told(exchanged, right, ways)

    def test_rows_beside_and_product(self):
        for marks in (2, 3, 4, 5):
            right = (marks, mixed_table(marks, 2, 6, 4), mixed_table(marks, 2, 3, 9))
            ways = [wrong.wrong_marks(), wrong.wrong_table_ways(marks), wrong.wrong_table_ways(marks)]
            self.all_wrong_are_told(rows_beside, right, ways)
            self.all_wrong_are_told(product, right, ways)

    def test_led(self):
        for marks, fewer in ((2, 2), (3, 3), (4, 2), (4, 4), (5, 5)):
            right = (marks, mixed_table(marks, 2, 6, 4), fewer, tuple(mark % fewer for mark in range(marks)))
            let = [one for one in range(2, marks + 1) if marks % one == 0]
            others = [value for value in wrong.any_values() if not (type(value) is int and value in let)]
            fewers = wrong.given(InvalidMarks, others + [-fewer, marks + 1, marks * 2, 1, 0, (fewer,), "2"])
            ways = [
                wrong.wrong_marks(), wrong.wrong_table_ways(marks), fewers, wrong.wrong_maps(marks, fewer),
            ]
            self.all_wrong_are_told(led, right, ways)


class JustInsideAndOutside(wrong.Told):
    def test_keys(self):
        self.assertEqual(with_keys(2, TRIPLED, (0, 1, 2)), TRIPLED)
        self.assertEqual(with_keys(2, TRIPLED, (2,)), ((0,), (1,), (1,), (0,)))
        self.told(InvalidKeys, "index", 3, with_keys, 2, TRIPLED, (0, 1, 2, 3))
        self.told(InvalidKeys, "index", 3, with_keys, 2, TRIPLED, (2, 1, 0, 2))
        self.assertEqual(exchanged(2, TRIPLED, 0, (0, 1)), TRIPLED)
        self.told(InvalidKey, "given", 3, exchanged, 2, TRIPLED, 3, (0, 1))
        self.told(InvalidKey, "given", -1, exchanged, 2, TRIPLED, -1, (0, 1))

    def test_fewer_divides_marks(self):
        table = ((0,), (1,))
        for marks in (2, 3, 4, 5):
            for fewer in range(-1, 12):
                images = tuple(mark % max(fewer, 1) for mark in range(marks))
                if 2 <= fewer <= marks and marks % fewer == 0:
                    self.assertEqual(led(marks, table, fewer, images), table)
                else:
                    self.told(InvalidMarks, "given", fewer, led, marks, table, fewer, images)

    def test_rows_beside_up_to_128(self):
        for many, others in ((127, 1), (1, 127), (64, 64), (100, 28)):
            told = rows_beside(3, LINES[:1] * many, LINES[1:2] * others)
            self.assertEqual(told, LINES[:1] * many + LINES[1:2] * others)
        for many, others in ((128, 1), (1, 128), (64, 65), (128, 128)):
            passed = (3, LINES[:1] * many, LINES[1:2] * others)
            self.told(TooMany, "given", many + others, rows_beside, *passed)

    def test_product_up_to_8_keys_and_128_rows(self):
        for keys, others in ((1, 7), (4, 4), (7, 1)):
            told = product(4, mixed_table(4, keys, 16, 1), mixed_table(4, others, 8, 2))
            self.assertEqual((len(told), len(told[0])), (128, 8))
        for keys, others in ((1, 8), (8, 1), (5, 4), (8, 8)):
            passed = (4, mixed_table(4, keys, 2, 1), mixed_table(4, others, 3, 2))
            self.told(TooMany, "given", keys + others, product, *passed)
        for rows, others in ((1, 128), (128, 1), (16, 8), (11, 11)):
            self.assertEqual(len(product(2, BIT[:1] * rows, BIT[:1] * others)), rows * others)
        for rows, others in ((2, 65), (128, 2), (43, 3), (12, 11), (128, 128)):
            self.told(TooMany, "given", rows * others, product, 2, BIT[:1] * rows, BIT[:1] * others)


class Last(wrong.Told):
    def test_unlike_tables_ahead_of_rows(self):
        self.told(UnlikeTables, None, None, rows_beside, 2, TRIPLED, BIT)
        self.told(UnlikeTables, None, None, rows_beside, 2, BIT * 64, TRIPLED * 32)
        self.told(TooMany, "given", 256, rows_beside, 2, TRIPLED * 32, TRIPLED * 32)

    def test_keys_ahead_of_rows(self):
        long = mixed_table(2, 8, 128, 1)
        self.told(TooMany, "given", 16, product, 2, long, long)
        self.told(TooMany, "given", 11, product, 2, long, TRIPLED)
        self.told(TooMany, "given", 512, product, 2, TRIPLED, BIT * 64)

    def test_behind_all_errors_of_all_arguments(self):
        long = mixed_table(2, 8, 128, 1)
        for function in (rows_beside, product):
            for other in (((0, 2),), ((0,) * 9,), (), [BIT], None, long * 2):
                index = None if type(other) is not tuple or other == () else 128 if other == long * 2 else 0
                self.told(InvalidTable, "index", index, function, 2, long, other)
                self.told(InvalidTable, "index", index, function, 2, other, long)
                self.told(InvalidMarks, "given", 6, function, 6, long, other)

    def test_marks_of_the_other_table_are_the_same(self):
        self.told(InvalidTable, "index", 2, rows_beside, 2, BIT, ((0,), (1,), (2,)))
        self.told(InvalidTable, "index", 2, product, 2, BIT, ((0,), (1,), (2,)))

    def test_orders_and_maps_behind_the_rest(self):
        self.told(InvalidOrder, "given", (0, 0), exchanged, 2, TRIPLED, 2, (0, 0))
        self.told(InvalidKey, "given", 9, exchanged, 2, TRIPLED, 9, (0, 0))
        self.told(InvalidMap, "given", (0, 0, 0, 1), led, 4, FOURS, 2, (0, 0, 0, 1))
        self.told(InvalidMarks, "given", 3, led, 4, FOURS, 3, (0, 0, 0, 1))


if __name__ == "__main__":
    unittest.main()
