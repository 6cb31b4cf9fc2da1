"""What sources.py and seals.py tell of wrong arguments."""

import unittest

from seedtables.errors import (
    InvalidForgery, InvalidFraction, InvalidLot, InvalidMarks, InvalidNumber, InvalidSource, InvalidTable,
)
from seedtables.seals import best_forgery, forged_share, forging_chance, worst_forging
from seedtables.sources import least_size, like_chance, off, off_bound, worst_lot, worst_off
from tests import by_hand, wrong
from tests.samples import BIT, GREAT, TRIPLED, mixed_table

OF_SOURCE = (off, like_chance, off_bound)
OF_SIZE = (worst_off, worst_lot)
OF_LOT = (forging_chance, best_forgery)


def patterns_of(table, lot):
    return sorted(set(by_hand.at(row, lot) for row in table))


def some_forgery(table, lot):
    key = [one for one in range(len(table[0])) if one not in lot][0]
    return tuple((pattern, key, 0) for pattern in patterns_of(table, lot))


def wrong_seen_lots(keys):
    """Of what is no lot of so many keys, or that of all of them; () is a lot."""
    return wrong.wrong_lots(keys) + wrong.given(InvalidLot, [tuple(range(keys))])


class Sources(wrong.Told):
    def test_sources(self):
        for marks, keys in ((2, 2), (3, 5), (5, 8)):
            right = (marks, mixed_table(marks, keys, 9, 2), wrong.some_shares(keys))
            ways = [wrong.wrong_marks(), wrong.wrong_table_ways(marks), wrong.wrong_sources(keys)]
            for function in OF_SOURCE:
                self.all_wrong_are_told(function, right, ways)

    def test_source_of_one_key(self):
        for function in OF_SOURCE:
            function(2, BIT, ((1, 1),))
            for source, index in (
                (((1, 2),), None), (((0, 1),), None), (((2, 1),), None), (((-1, 1),), 0), (((2, 2),), 0), ((), None),
                (((1, 1), (0, 1)), None), ((1, 1), None), (((True, 1),), 0), (((1, True),), 0), ([(1, 1)], None),
                (([1, 1],), 0), ((1,), 0), (None, None),
            ):
                self.told(InvalidSource, "index", index, function, 2, BIT, source)

    def test_sizes(self):
        for marks, keys in ((2, 1), (3, 5), (5, 8)):
            right = (marks, mixed_table(marks, keys, 9, 2), keys)
            ways = [wrong.wrong_marks(), wrong.wrong_table_ways(marks), wrong.wrong_numbers(1, keys)]
            for function in OF_SIZE:
                self.all_wrong_are_told(function, right, ways)

    def test_least_size(self):
        for marks, keys in ((2, 1), (3, 5), (5, 8)):
            right = (marks, mixed_table(marks, keys, 9, 2), (1, 2))
            ways = [wrong.wrong_marks(), wrong.wrong_table_ways(marks), wrong.wrong_given_parts()]
            self.all_wrong_are_told(least_size, right, ways)

    def test_just_inside_and_outside(self):
        for marks, table in GREAT:
            for function in OF_SIZE:
                function(marks, table, 1)
                function(marks, table, 8)
                for size in (0, 9, -1, True):
                    self.told(InvalidNumber, "given", size, function, marks, table, size)
            for one in ((0, 1), (1, 10 ** 399), (1, 1), (10 ** 399, 1)):
                least_size(marks, table, one)
            for one in ((-1, 10 ** 399), (0, 2), (1, 0)):
                self.told(InvalidFraction, "given", one, least_size, marks, table, one)
            # All chances but the last one make so much that it is told by them alone.
            small, rest = (1, 10 ** 30), (10 ** 30 - 7, 10 ** 30)
            for function in OF_SOURCE:
                function(marks, table, (small,) * 7 + (rest,))
                for last in ((10 ** 30 - 9, 10 ** 30), (10 ** 30 - 3, 5 * 10 ** 30), (0, 1), (1, 1)):
                    self.told(InvalidSource, "index", None, function, marks, table, (small,) * 7 + (last,))


class Seals(wrong.Told):
    def test_lots(self):
        for marks, keys in ((2, 1), (3, 5), (5, 8)):
            ways = [wrong.wrong_marks(), wrong.wrong_table_ways(marks), wrong_seen_lots(keys)]
            for function in OF_LOT:
                self.all_wrong_are_told(function, (marks, mixed_table(marks, keys, 9, 2), ()), ways)

    def test_forgeries(self):
        lots = ((2, 2, (1,)), (3, 5, (0, 3)), (5, 8, (0, 1, 2, 3, 4, 5, 6)), (4, 3, ()), (2, 4, (1, 2, 3)))
        for marks, keys, lot in lots:
            table = mixed_table(marks, keys, 9, 2)
            right = (marks, table, lot, some_forgery(table, lot))
            ways = [
                wrong.wrong_marks(), wrong.wrong_table_ways(marks), wrong_seen_lots(keys),
                wrong.wrong_forgeries(marks, keys, lot, patterns_of(table, lot)),
            ]
            self.all_wrong_are_told(forged_share, right, ways)

    def test_sizes(self):
        for marks, keys in ((2, 1), (3, 5), (5, 8)):
            ways = [wrong.wrong_marks(), wrong.wrong_table_ways(marks), wrong.wrong_numbers(0, keys - 1)]
            self.all_wrong_are_told(worst_forging, (marks, mixed_table(marks, keys, 9, 2), 0), ways)

    def test_lot_of_all_keys(self):
        for marks, table in GREAT:
            lot = tuple(range(8))
            for function in OF_LOT:
                self.told(InvalidLot, "given", lot, function, marks, table, lot)
                function(marks, table, lot[1:])
                function(marks, table, ())
            self.told(InvalidLot, "given", lot, forged_share, marks, table, lot, None)
            worst_forging(marks, table, 0)
            worst_forging(marks, table, 7)
            self.told(InvalidNumber, "given", 8, worst_forging, marks, table, 8)
            self.told(InvalidNumber, "given", -1, worst_forging, marks, table, -1)
        self.told(InvalidLot, "given", (0,), forging_chance, 2, BIT, (0,))
        self.told(InvalidNumber, "given", 1, worst_forging, 2, BIT, 1)

    def test_just_the_patterns_that_come(self):
        # On (0, 1) of TRIPLED's first three rows three of four patterns come.
        table, lot = TRIPLED[:3], (0, 1)
        right = (((0, 0), 2, 0), ((0, 1), 2, 1), ((1, 0), 2, 1))
        self.assertEqual(forged_share(2, table, lot, right), (1, 1))
        more = right + (((1, 1), 2, 0),)
        self.told(InvalidForgery, "index", None, forged_share, 2, table, lot, more)
        self.told(InvalidForgery, "index", 2, forged_share, 2, table, lot, right[:2] + more[3:])
        self.told(InvalidForgery, "index", 1, forged_share, 2, table, lot, (right[0], right[2], right[1]))

    def test_first_wrong_one_is_told(self):
        self.told(InvalidMarks, "given", 1, forged_share, 1, TRIPLED, (0,), None)
        self.told(InvalidTable, "index", None, forged_share, 2, [], (9,), None)
        self.told(InvalidLot, "given", (9,), forged_share, 2, TRIPLED, (9,), None)
        triples = (((0,), 1, 2), ((1,), 0, 0))
        self.told(InvalidForgery, "index", 0, forged_share, 2, TRIPLED, (0,), triples)
        self.told(InvalidForgery, "index", 1, forged_share, 2, TRIPLED, (0,), (((0,), 1, 1), ((1,), 0, 0)))


if __name__ == "__main__":
    unittest.main()
