"""Names, files, arguments and kinds of values, and what holds for each call of each function."""

import copy
import importlib
import inspect
import unittest

from tests.samples import GREAT, MIXED, STRONG, TRIPLED

# For each function its file, its parameters, and arguments that are right.
INTERFACE = (
    ("tables", "is_table", ("marks", "value"), (2, TRIPLED)),
    ("tables", "pattern_counts", ("marks", "table", "lot"), (2, TRIPLED, (0, 2))),
    ("tables", "is_even_on", ("marks", "table", "lot"), (2, TRIPLED, (0, 2))),
    ("tables", "strength", ("marks", "table"), (2, TRIPLED)),
    ("tables", "uneven_lot", ("marks", "table", "size"), (2, TRIPLED, 3)),
    ("leans", "lean", ("marks", "table", "lot"), (2, TRIPLED, (0, 1, 2))),
    ("leans", "unevenness", ("marks", "table", "lot"), (2, TRIPLED, (0, 1, 2))),
    ("leans", "likenesses", ("marks", "table"), (2, TRIPLED)),
    ("leans", "transform", ("marks", "table"), (2, TRIPLED)),
)


def found(file, name):
    return getattr(importlib.import_module("seedtables." + file), name)


def is_plain(value):
    """Whether a value is built of whole numbers, True, False, None and tuples alone."""
    if type(value) is tuple:
        return all(is_plain(part) for part in value)
    return value is None or type(value) in (int, bool)


class Interface(unittest.TestCase):
    def test_each_function_is_defined_in_its_file_with_its_parameters(self):
        for file, name, parameters, _ in INTERFACE:
            function = found(file, name)
            self.assertTrue(inspect.isfunction(function))
            self.assertEqual(function.__module__, "seedtables." + file)
            self.assertEqual(tuple(inspect.signature(function).parameters), parameters)

    def test_by_position_and_by_name(self):
        for file, name, parameters, arguments in INTERFACE:
            function = found(file, name)
            expected = function(*arguments)
            named = dict(zip(parameters, arguments))
            self.assertEqual(function(**named), expected)
            self.assertEqual(function(**dict(reversed(named.items()))), expected)
            self.assertEqual(function(arguments[0], **dict(list(named.items())[1:])), expected)

    def test_equal_calls_return_equal_results(self):
        for file, name, _, arguments in INTERFACE:
            function = found(file, name)
            for marks, table in [(marks, table) for marks, table, _ in STRONG] + list(MIXED):
                keys = len(table[0])
                last = {"lot": tuple(range(min(keys, 4))), "size": keys}
                more = [last[word] for word in inspect.signature(function).parameters if word in last]
                again = tuple(tuple(list(row)) for row in table)
                first = function(marks, table, *more)
                self.assertEqual(first, function(marks, again, *copy.deepcopy(more)))
                self.assertEqual(first, function(marks, table, *more))
                self.assertTrue(is_plain(first), (name, first))

    def test_arguments_stay_as_they_are(self):
        for file, name, _, arguments in INTERFACE:
            for wrong in ([[0, 1], [1, 0]], {0: [0], "a": {1: 2}}, ([0], [1, 2]), ((0,), [0])):
                for at in range(len(arguments)):
                    passed = list(copy.deepcopy(arguments))
                    passed[at] = copy.deepcopy(wrong)
                    before = copy.deepcopy(passed)
                    try:
                        found(file, name)(*passed)
                    except ValueError:
                        pass
                    self.assertEqual(passed, before)

    def test_what_the_package_returned_may_be_passed_to_it(self):
        for marks, table in GREAT + MIXED:
            told = found("tables", "uneven_lot")(marks, table, len(table[0]))
            if told is not None:
                lot, pattern, other = told
                self.assertIs(found("tables", "is_even_on")(marks, table, lot), False)
                self.assertIs(found("tables", "is_table")(marks, (pattern, other)), True)


if __name__ == "__main__":
    unittest.main()
