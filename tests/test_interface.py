"""Names, files, arguments and kinds of values, and what holds for each call of each function."""

import copy
import importlib
import inspect
import unittest

from tests.orders_by_rule import free_orders
from tests.samples import BIT, GREAT, MIXED, ODD, STRONG, TRIPLED, mixed_table, questions, units

SHARES = ((1, 4), (0, 1), (3, 4), (0, 1))
QUESTION = ((1, 2), (-1, 3), (0, 1), (2, 1))
SOURCE = ((1, 6), (1, 2), (1, 3))
FORGERY = (((0,), 1, 0), ((1,), 2, 1))
TURNS = ((0, 1, 2), (1, 2, 0), (2, 0, 1))

# For each function its file, its parameters, and arguments that are right.
INTERFACE = (
    ("tables", "is_table", ("marks", "value"), (2, TRIPLED)),
    ("tables", "pattern_counts", ("marks", "table", "lot"), (2, TRIPLED, (0, 2))),
    ("tables", "is_even_on", ("marks", "table", "lot"), (2, TRIPLED, (0, 2))),
    ("tables", "strength", ("marks", "table"), (2, TRIPLED)),
    ("tables", "uneven_lot", ("marks", "table", "size"), (2, TRIPLED, 3)),
    ("leans", "lean", ("marks", "table", "lot"), (2, TRIPLED, (0, 1, 2))),
    ("leans", "unevenness", ("marks", "table", "lot"), (2, TRIPLED, (0, 1, 2))),
    ("leans", "likenesses", ("marks", "table"), (2, TRIPLED)),
    ("leans", "transform", ("marks", "table"), (2, TRIPLED)),
    ("changes", "with_keys", ("marks", "table", "keys"), (2, TRIPLED, (2, 0))),
    ("changes", "exchanged", ("marks", "table", "key", "order"), (2, TRIPLED, 2, (1, 0))),
    ("changes", "rows_beside", ("marks", "table", "other"), (2, TRIPLED, ODD)),
    ("changes", "product", ("marks", "table", "other"), (2, TRIPLED, BIT)),
    ("changes", "led", ("marks", "table", "fewer", "images"), (4, mixed_table(4, 3, 9, 1), 2, (0, 1, 1, 0))),
    ("counts", "all_counts", ("marks", "many"), (4, 5)),
    ("counts", "all_powers", ("marks", "many", "size"), (3, 4, 1)),
    ("counts", "even_mean", ("marks", "many", "powers"), (3, 4, (1, 2))),
    ("counts", "even_shares", ("marks", "many"), (3, 8)),
    ("counts", "counted", ("marks", "table", "lot"), (2, TRIPLED, (0, 1, 2))),
    ("counts", "falling_mean", ("marks", "many", "shares", "powers"), (2, 3, SHARES, (1,))),
    ("counts", "are_even_shares", ("marks", "many", "size", "shares"), (2, 3, 2, SHARES)),
    ("counts", "mean_of", ("marks", "many", "shares", "question"), (2, 3, SHARES, QUESTION)),
    ("counts", "greatest_mean", ("marks", "many", "size", "question"), (4, 5, 3, questions(56)[0])),
    ("counts", "least_mean", ("marks", "many", "size", "question"), (4, 5, 3, questions(56)[0])),
    ("counts", "reaching_shares", ("marks", "many", "size", "question"), (4, 5, 3, questions(56)[1])),
    ("counts", "bounding_polynomial", ("marks", "many", "size", "question"), (4, 5, 3, questions(56)[1])),
    ("counts", "table_of", ("marks", "many", "shares"), (2, 3, SHARES)),
    ("single", "at_least", ("many", "least"), (12, 5)),
    ("single", "greatest_single", ("marks", "many", "size", "question"), (60, 12, 6, questions(13)[0])),
    ("single", "least_single", ("marks", "many", "size", "question"), (60, 12, 6, questions(13)[0])),
    ("single", "reaching_single", ("marks", "many", "size", "question"), (60, 12, 6, questions(13)[1])),
    ("single", "bounding_single", ("marks", "many", "size", "question"), (60, 12, 6, questions(13)[1])),
    ("made", "polynomial_table", ("prime", "size", "keys"), (5, 3, 4)),
    ("made", "straight_table", ("prime", "vectors"), (2, units(6))),
    ("made", "free_strength", ("prime", "vectors"), (5, units(6))),
    ("made", "tie_of", ("prime", "vectors", "lot"), (3, ((1,), (1,), (2,)), (0, 1))),
    ("made", "sums_table", ("marks", "table", "other"), (3, mixed_table(3, 2, 9, 1), mixed_table(3, 4, 7, 1))),
    ("made", "behind", ("marks", "table", "fewer", "other"), (2, TRIPLED, 5, mixed_table(5, 2, 7, 1))),
    ("fewest", "rao_number", ("marks", "keys", "size"), (5, 12, 7)),
    ("fewest", "least_sum", ("marks", "keys", "size"), (5, 12, 7)),
    ("fewest", "least_shares", ("marks", "keys", "size"), (5, 12, 7)),
    ("fewest", "row_prices", ("marks", "keys", "size"), (5, 12, 7)),
    ("fewest", "price_bound", ("marks", "keys", "size", "prices"), (2, 3, 2, ((1, 2), (1, 2), (0, 1)))),
    ("fewest", "fewest_rows", ("marks", "keys", "size"), (5, 12, 7)),
    ("collisions", "collision", ("marks", "table", "one", "two"), (3, mixed_table(3, 8, 128, 1), 7, 2)),
    ("collisions", "worst_collision", ("marks", "table"), (3, mixed_table(3, 8, 128, 1))),
    ("collisions", "worst_pair", ("marks", "table"), (3, mixed_table(3, 8, 128, 1))),
    ("collisions", "least_worst", ("marks", "keys"), (3, 60)),
    ("collisions", "reaches_least", ("marks", "table"), (3, mixed_table(3, 8, 128, 1))),
    ("sources", "off", ("marks", "table", "source"), (2, TRIPLED, SOURCE)),
    ("sources", "like_chance", ("marks", "table", "source"), (2, TRIPLED, SOURCE)),
    ("sources", "off_bound", ("marks", "table", "source"), (2, TRIPLED, SOURCE)),
    ("sources", "worst_off", ("marks", "table", "size"), (4, mixed_table(4, 8, 128, 1), 4)),
    ("sources", "worst_lot", ("marks", "table", "size"), (4, mixed_table(4, 8, 128, 1), 4)),
    ("sources", "least_size", ("marks", "table", "fraction"), (4, mixed_table(4, 8, 128, 1), (1, 3))),
    ("seals", "forging_chance", ("marks", "table", "lot"), (2, mixed_table(2, 8, 128, 1), (0, 3, 5))),
    ("seals", "best_forgery", ("marks", "table", "lot"), (2, mixed_table(2, 8, 128, 1), (0, 3, 5))),
    ("seals", "forged_share", ("marks", "table", "lot", "forgery"), (2, TRIPLED, (0,), FORGERY)),
    ("seals", "worst_forging", ("marks", "table", "size"), (2, mixed_table(2, 8, 128, 1), 4)),
    ("orders", "are_orders", ("value",), (TURNS,)),
    ("orders", "first_shares", ("orders", "lot"), (TURNS, (0, 1))),
    ("orders", "is_fair_on", ("orders", "lot"), (TURNS, (0, 1))),
    ("orders", "fairness", ("orders",), (free_orders(6, 120, 3),)),
    ("orders", "unfair_lot", ("orders",), (free_orders(6, 120, 3),)),
    ("orders", "ahead_share", ("orders", "lot", "key"), (TURNS, (0,), 1)),
    ("orders", "made_orders", ("keys",), (6,)),
    ("orders", "likeness", ("orders", "lot", "other"), (TURNS, (0, 1), (1, 2))),
    ("orders", "told_likeness", ("orders", "lot", "other"), (TURNS, (0, 1), (1, 2))),
    ("orders", "slant", ("orders", "size"), (free_orders(6, 120, 3), 5)),
    ("orders", "slant_pair", ("orders", "size"), (free_orders(6, 120, 3), 5)),
    ("apart", "apart_share", ("marks", "table", "lot"), (5, mixed_table(5, 8, 128, 1), (0, 3, 5))),
    ("apart", "is_apart_up_to", ("marks", "table", "size"), (5, mixed_table(5, 8, 128, 1), 4)),
    ("apart", "blind_lot", ("marks", "table", "size"), (2, mixed_table(2, 8, 128, 1), 4)),
    ("apart", "is_parted", ("marks", "table", "lot", "other"), (2, TRIPLED, (0,), (1, 2))),
    ("apart", "framed", ("marks", "table", "size"), (2, mixed_table(2, 8, 128, 1), 6)),
    ("apart", "rows_let", ("marks", "keys", "size"), (5, 10 ** 6, 5)),
    ("checker", "accepts", ("claim", "paper"), (("even", 2, TRIPLED, 2), ())),
    ("certificates", "certify_even", ("marks", "table", "size"), (2, TRIPLED, 3)),
    ("certificates", "certify_lean", ("marks", "table", "lot"), (2, TRIPLED, (0, 1, 2))),
    ("certificates", "certify_mean", ("marks", "many", "size", "question", "fraction"), (2, 3, 1, QUESTION, (1, 2))),
    ("certificates", "certify_single", ("marks", "many", "size", "question", "fraction"), (60, 3, 1, QUESTION, (1, 2))),
    ("certificates", "certify_rows", ("marks", "keys", "size", "fraction"), (5, 12, 7, (1000, 1))),
    ("certificates", "certify_strength", ("prime", "vectors", "count"), (3, ((1,), (1,), (2,)), 2)),
    ("certificates", "certify_collision", ("marks", "table"), (2, TRIPLED)),
    ("certificates", "certify_off", ("marks", "table", "size", "fraction"), (2, TRIPLED, 2, (1, 5))),
    ("certificates", "certify_forging", ("marks", "table", "lot", "fraction"), (2, TRIPLED, (0,), (1, 5))),
    ("certificates", "certify_fair", ("orders", "size"), (TURNS, 2)),
    ("certificates", "certify_apart", ("marks", "table", "size"), (2, TRIPLED, 2)),
    ("certificates", "certify_framing", ("marks", "table", "size"), (2, TRIPLED, 2)),
)

# The functions of a table and no more than a lot or a size beside it.
OF_TABLES = tuple(one for one in INTERFACE if one[0] in ("tables", "leans"))


def found(file, name):
    return getattr(importlib.import_module("seedtables." + file), name)


def again(value):
    """An equal value, in which each tuple is another one."""
    return tuple([again(part) for part in value]) if type(value) is tuple else value


def is_plain(value):
    """Whether a value is built of whole numbers, True, False, None, texts (words of claims) and tuples alone."""
    if type(value) is tuple:
        return all(is_plain(part) for part in value)
    return value is None or type(value) in (int, bool, str)


class Interface(unittest.TestCase):
    def test_each_function_is_defined_in_its_file_with_its_parameters(self):
        for file, name, parameters, _ in INTERFACE:
            function = found(file, name)
            self.assertTrue(inspect.isfunction(function))
            self.assertEqual(function.__module__, "seedtables." + file)
            self.assertEqual(tuple(inspect.signature(function).parameters), parameters)

    def test_by_position_and_by_name(self):
        for file, name, parameters, arguments in INTERFACE:
            function = found(file, name)
            expected = function(*arguments)
            named = dict(zip(parameters, arguments))
            self.assertEqual(function(**named), expected)
            self.assertEqual(function(**dict(reversed(named.items()))), expected)
            self.assertEqual(function(arguments[0], **dict(list(named.items())[1:])), expected)

    def test_equal_calls_return_equal_results(self):
        for file, name, _, arguments in INTERFACE:
            function = found(file, name)
            first = function(*arguments)
            self.assertTrue(is_plain(first), (name, first))
            self.assertEqual(first, function(*copy.deepcopy(arguments)))
            self.assertEqual(first, function(*again(arguments)))

    def test_equal_calls_with_tables_return_equal_results(self):
        for file, name, _, arguments in OF_TABLES:
            function = found(file, name)
            for marks, table in [(marks, table) for marks, table, _ in STRONG] + list(MIXED):
                keys = len(table[0])
                last = {"lot": tuple(range(min(keys, 4))), "size": keys}
                more = [last[word] for word in inspect.signature(function).parameters if word in last]
                first = function(marks, table, *more)
                self.assertEqual(first, function(marks, again(table), *copy.deepcopy(more)))
                self.assertEqual(first, function(marks, table, *more))
                self.assertTrue(is_plain(first), (name, first))

    def test_arguments_stay_as_they_are(self):
        for file, name, _, arguments in INTERFACE:
            for wrong in ([[0, 1], [1, 0]], {0: [0], "a": {1: 2}}, ([0], [1, 2]), ((0,), [0])):
                for at in range(len(arguments)):
                    passed = list(copy.deepcopy(arguments))
                    passed[at] = copy.deepcopy(wrong)
                    before = copy.deepcopy(passed)
                    try:
                        found(file, name)(*passed)
                    except ValueError:
                        pass
                    self.assertEqual(passed, before)

    def test_what_the_package_returned_may_be_passed_to_it(self):
        for marks, table in GREAT + MIXED:
            told = found("tables", "uneven_lot")(marks, table, len(table[0]))
            if told is not None:
                lot, pattern, other = told
                self.assertIs(found("tables", "is_even_on")(marks, table, lot), False)
                self.assertIs(found("tables", "is_table")(marks, (pattern, other)), True)


if __name__ == "__main__":
    unittest.main()
