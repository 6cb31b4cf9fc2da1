"""What is told of arguments that are wrong, alone, beside others, and last."""

import unittest
from itertools import product

from seedtables.errors import InvalidLot, InvalidMarks, InvalidNumber, InvalidTable, TooMany
from seedtables.leans import lean, likenesses, transform, unevenness
from seedtables.tables import is_even_on, is_table, pattern_counts, strength, uneven_lot
from tests.by_hand import all_lots
from tests.samples import GREAT, MIXED, TRIPLED, mixed_table
from tests.wrong import Told, any_values, right_tables, wrong_tables

WITH_LOT = (pattern_counts, is_even_on, lean, unevenness)
ALONE = (strength, likenesses, transform)
WITH_SIZE = (uneven_lot,)
WITH_TABLE = WITH_LOT + WITH_SIZE + ALONE


def last_arguments(function):
    """What stands behind marks and table in a right call."""
    if function in WITH_LOT:
        return ((0,),)
    return (1,) if function in WITH_SIZE else ()


class Marks(Told):
    def test_no_whole_number_from_2_to_5(self):
        wrong = [value for value in any_values() if type(value) is not int or not 2 <= value <= 5]
        self.assertEqual(len(any_values()) - len(wrong), 4)
        for value in wrong:
            self.told(InvalidMarks, "given", value, is_table, value, TRIPLED)
            for function in WITH_TABLE:
                self.told(InvalidMarks, "given", value, function, value, TRIPLED, *last_arguments(function))

    def test_just_inside(self):
        for marks in (2, 5):
            self.assertIs(is_table(marks, TRIPLED), True)
            for function in WITH_TABLE:
                function(marks, TRIPLED, *last_arguments(function))

    def test_told_though_the_value_is_no_table(self):
        for value in any_values():
            self.told(InvalidMarks, "given", 1, is_table, 1, value)
            self.told(InvalidMarks, "given", True, is_table, True, value)


class Tables(Told):
    def test_index_of_the_first_wrong_row(self):
        for marks in (2, 3, 4, 5):
            for value, index in wrong_tables(marks):
                self.assertIs(is_table(marks, value), False, (marks, value))
                for function in WITH_TABLE:
                    self.told(InvalidTable, "index", index, function, marks, value, *last_arguments(function))

    def test_rows_that_differ_in_length_from_the_first(self):
        for value, index in ((((0,), (0, 1)), 1), (((0, 1, 0), (0, 1)), 1), (((0,) * 8, (0,) * 8, (0,) * 9), 2)):
            self.told(InvalidTable, "index", index, strength, 2, value)

    def test_any_value(self):
        right = (((0,),),)
        for value in any_values():
            expected = type(value) is tuple and value in right
            for marks in (2, 3, 4, 5):
                self.assertIs(is_table(marks, value), expected, value)
                if not expected:
                    index = 0 if type(value) is tuple and value != () else None
                    if value == ((0,), [0]):
                        index = 1
                    for function in WITH_TABLE:
                        self.told(InvalidTable, "index", index, function, marks, value, *last_arguments(function))

    def test_right_tables(self):
        for marks in (2, 3, 4, 5):
            for table in right_tables(marks):
                self.assertIs(is_table(marks, table), True)
                for function in WITH_TABLE:
                    function(marks, table, *last_arguments(function))

    def test_marks_of_the_table_are_those_that_are_told(self):
        for most in (1, 2, 3, 4):
            table = ((0, 0), (0, most))
            for marks in (2, 3, 4, 5):
                self.assertIs(is_table(marks, table), most < marks)
                if most >= marks:
                    for function in WITH_TABLE:
                        self.told(InvalidTable, "index", 1, function, marks, table, *last_arguments(function))


class Lots(Told):
    def test_any_value(self):
        right = all_lots(3)
        for value in any_values():
            if type(value) is tuple and value in right and True not in [type(key) is bool for key in value]:
                for function in WITH_LOT:
                    function(2, TRIPLED, value)
            else:
                for function in WITH_LOT:
                    self.told(InvalidLot, "given", value, function, 2, TRIPLED, value)

    def test_just_the_ascending_tuples_of_keys_are_lots(self):
        for keys in (1, 2, 3):
            table = mixed_table(3, keys, 5, keys)
            right = all_lots(keys)
            for size in range(keys + 2):
                for value in product(range(-1, keys + 1), repeat=size):
                    for function in WITH_LOT:
                        if value in right:
                            function(3, table, value)
                        else:
                            self.told(InvalidLot, "given", value, function, 3, table, value)

    def test_wrong_lots(self):
        wrong = [
            (1, 0), (2, 1, 0), (0, 0), (1, 1), (0, 1, 1), (0, 1, 2, 2), (0, 1, 2, 3), (3,), (8,), (0, 3), (-1,),
            (-1, 0), (0, -1), (0, True), (False, 1), (True, 2), (0, None), (0, "1"), (0, (1,)), ((0, 1),), ([0],),
            [0, 1], {0: 1}, range(2), "01", b"\x00\x01", (10 ** 30,), (-10 ** 30,), (0, 10 ** 30), (0,) * 300,
            ((),), (None,), ({},),
        ]
        for value in wrong:
            for function in WITH_LOT:
                self.told(InvalidLot, "given", value, function, 2, TRIPLED, value)

    def test_lot_of_all_keys_and_none(self):
        for marks, table in MIXED:
            keys = len(table[0])
            for function in (is_even_on, lean, unevenness):
                function(marks, table, tuple(range(keys)))
                function(marks, table, ())
            for function in WITH_LOT:
                value = tuple(range(keys + 1))
                self.told(InvalidLot, "given", value, function, marks, table, value)


class Sizes(Told):
    def test_any_value(self):
        for value in any_values():
            if type(value) is int and 0 <= value <= 3:
                uneven_lot(2, TRIPLED, value)
            else:
                self.told(InvalidNumber, "given", value, uneven_lot, 2, TRIPLED, value)

    def test_from_0_to_the_number_of_keys(self):
        for keys in range(1, 9):
            table = mixed_table(4, keys, 3, keys)
            for size in range(keys + 1):
                uneven_lot(4, table, size)
            for size in (-1, keys + 1, 10 ** 30, -10 ** 30):
                self.told(InvalidNumber, "given", size, uneven_lot, 4, table, size)


class SeveralWrong(Told):
    def test_the_first_one_is_told(self):
        ways = (
            (InvalidMarks, "given", (1, 6, True, None, [2])),
            (InvalidTable, "index", ((), [(0,)], None, "table", 2)),
        )
        lots = ((InvalidLot, "given", ((1, 0), [0], None, (9,), True)),)
        sizes = ((InvalidNumber, "given", (-1, 99, True, None, (0,))),)
        for function in WITH_TABLE:
            more = lots if function in WITH_LOT else sizes if function in WITH_SIZE else ()
            self.first_is_told(function, ways + more, (2, TRIPLED) + last_arguments(function))

    def first_is_told(self, function, ways, right):
        for chosen in product((False, True), repeat=len(ways)):
            if True not in chosen:
                continue
            for turn in range(5):
                passed = [ways[at][2][turn] if wrong else right[at] for at, wrong in enumerate(chosen)]
                at = chosen.index(True)
                error, attribute, _ = ways[at]
                self.told(error, attribute, passed[at] if attribute == "given" else None, function, *passed)

    def test_row_with_a_wrong_lot(self):
        for function in WITH_LOT:
            self.told(InvalidTable, "index", 1, function, 2, ((0, 0), (0, 2)), (1, 0))
        self.told(InvalidTable, "index", 1, uneven_lot, 2, ((0, 0), (0, 2)), 3)


class Many(Told):
    def test_up_to_1024_patterns(self):
        for marks, keys in ((2, 8), (3, 6), (4, 5), (5, 4)):
            table = mixed_table(marks, 8, 20, marks)
            told = pattern_counts(marks, table, tuple(range(8 - keys, 8)))
            self.assertEqual(len(told), marks ** keys)
            self.assertEqual(sum(told), 20)

    def test_above_1024_patterns(self):
        for marks, keys in ((3, 7), (3, 8), (4, 6), (4, 7), (4, 8), (5, 5), (5, 6), (5, 7), (5, 8)):
            table = mixed_table(marks, 8, 20, marks)
            lot = tuple(range(8 - keys, 8))
            self.told(TooMany, "given", marks ** keys, pattern_counts, marks, table, lot)

    def test_told_last(self):
        lot = tuple(range(8))
        for marks, table in GREAT[1:]:
            self.told(TooMany, "given", marks ** 8, pattern_counts, marks, table, lot)
            self.told(InvalidMarks, "given", 6, pattern_counts, 6, table, lot)
            self.told(InvalidTable, "index", 128, pattern_counts, marks, table + table, lot)
            for wrong in (lot + (8,), lot[::-1], (0,) + lot, list(lot)):
                self.told(InvalidLot, "given", wrong, pattern_counts, marks, table, wrong)

    def test_told_by_pattern_counts_alone(self):
        lot = tuple(range(8))
        for marks, table in GREAT:
            self.assertIs(is_even_on(marks, table, lot), False)
            self.assertEqual(uneven_lot(marks, table, 8)[0], lot)
            for function in (lean, unevenness):
                self.assertEqual(len(function(marks, table, lot)), 2)


if __name__ == "__main__":
    unittest.main()
