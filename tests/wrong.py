"""Wrong arguments of each kind with the errors that the document tells of them, and how these are looked at."""

import unittest
from itertools import product

from seedtables.errors import (
    InvalidForgery, InvalidFraction, InvalidKey, InvalidKeys, InvalidLot, InvalidMap, InvalidMarks, InvalidNumber,
    InvalidOrder, InvalidOrders, InvalidPowers, InvalidPrices, InvalidQuestion, InvalidShares, InvalidSource,
    InvalidTable, InvalidVectors, TooMany,
)
from tests.samples import mixed_table


class Something:
    """No value of Python's own."""


def nested(depth, make):
    value = make(())
    for _ in range(depth - 1):
        value = make((value,))
    return value


def any_values():
    """Values of any kind; those that are right somewhere are among them."""
    return [
        None, True, False, Ellipsis, "", "2", "table", "(0,)", b"", b"\x00", [], [2], [0, 1], [[0]], [(0,)], {},
        {0: 1}, {"a": [1]}, set(), {0}, frozenset((0,)), (), (0,), (1,), (0, 1), ((),), ((0,),), ([0],), ({},),
        ((0,), [0]), (None,), ("0",), (True,), (False,), -1, 0, 1, 2, 3, 4, 5, 6, 7, 8, 9, 128, 1024,
        10 ** 30, 10 ** 30 + 1, -10 ** 30, 10 ** 399, -10 ** 399, object(), Something(), Something, int, len,
        range(3), iter(()), nested(14, tuple), nested(14, list), lambda: None,
    ]


class Told(unittest.TestCase):
    def told(self, error, attribute, value, function, *arguments):
        """The call raises just this error, with this very value."""
        with self.assertRaises(error, msg=(function, arguments)) as caught:
            function(*arguments)
        self.assertIs(type(caught.exception), error, (function, arguments))
        if attribute is None:
            self.assertEqual(vars(caught.exception), {})
            return
        kept = getattr(caught.exception, attribute)
        self.assertIs(type(kept), type(value), (function, arguments))
        if attribute == "given" and error is not TooMany:
            self.assertIs(kept, value, (function, arguments))
        else:
            self.assertEqual(kept, value, (function, arguments))

    def each_wrong_is_told(self, function, right, ways):
        """Of each argument each wrong value is told, all others being right: ways has a list for each argument."""
        function(*right)
        self.assertEqual(len(right), len(ways))
        for at, way in enumerate(ways):
            self.assertGreater(len(way), 10)
            for error, attribute, value, kept in way:
                passed = (*right[:at], value, *right[at + 1:])
                self.told(error, attribute, kept, function, *passed)

    def first_wrong_is_told(self, function, right, ways):
        """Of several wrong arguments, whichever they are, the first one is told."""
        for chosen in product((False, True), repeat=len(right)):
            if True not in chosen:
                continue
            at = chosen.index(True)
            for turn in range(7):
                picked = [way[(turn * 13 + place * 5) % len(way)] for place, way in enumerate(ways)]
                passed = [one[2] if wrong else right[place] for place, (one, wrong) in enumerate(zip(picked, chosen))]
                error, attribute, _, kept = picked[at]
                self.told(error, attribute, kept, function, *passed)

    def all_wrong_are_told(self, function, right, ways):
        self.each_wrong_is_told(function, right, ways)
        self.first_wrong_is_told(function, right, ways)


def given(error, values):
    """What is told of values that are wrong and are kept as they are."""
    return [(error, "given", value, value) for value in values]


def indexed(error, pairs):
    """What is told of values that are wrong, each with the index that is kept."""
    return [(error, "index", value, index) for value, index in pairs]


def is_number(value, least, most):
    return type(value) is int and least <= value <= most


def no_numbers(least, most):
    values = any_values() + [least - 1, most + 1, -most, most * 1000, (least,), [most], str(least)]
    return [value for value in values if not is_number(value, least, most)]


def wrong_marks(least=2, most=5):
    return given(InvalidMarks, no_numbers(least, most))


def wrong_primes():
    primes = [value for value in any_values() if type(value) is int and value in (2, 3, 5)]
    assert primes == [2, 3, 5]
    values = [value for value in any_values() if not (type(value) is int and value in primes)]
    return given(InvalidMarks, values + [-2, -3, 4, 6, 7, 11, (2,), [3], "5"])


def wrong_numbers(least, most):
    return given(InvalidNumber, no_numbers(least, most))


def wrong_keys(keys):
    """Of what is no index of one of so many keys."""
    return given(InvalidKey, no_numbers(0, keys - 1))


def wrong_table_ways(marks):
    return indexed(InvalidTable, wrong_tables(marks))


def right_tables(marks):
    row = tuple(place % marks for place in range(8))
    return [
        ((0,),), ((marks - 1,),), ((0,) * 8,), ((marks - 1,) * 8,), (row,) * 128, (row[:1],) * 128,
        tuple((place % marks,) for place in range(128)), mixed_table(marks, 8, 128, 5),
        ((0, marks - 1), (0, 0), (0, marks - 1)),
    ]


def wrong_rows(marks):
    """What is no row of two marks, wherever it stands."""
    return [
        None, True, 0, "01", b"01", [], [0, 1], {0: 1, 1: 0}, (), (0,), (0, 1, 0), (0,) * 8, (0,) * 9,
        (0, marks), (marks, 0), (0, -1), (-1, 0), (0, True), (False, 0), (True, True), (0, None), (0, "1"),
        (0, [1]), ((0,), 1), ((0, 1),), ([0, 1],), (0, 10 ** 30), (-10 ** 30, 0), range(2), object(),
    ]


def wrong_tables(marks):
    """Pairs of a value that is no table of these marks and the index that is told."""
    good = (0, marks - 1)
    told = [(value, None) for value in any_values() if not isinstance(value, tuple) or value == ()]
    told += [([good], None), ([list(good)], None), ({good: good}, None), (iter((good,)), None)]
    first = [row for row in wrong_rows(marks) if row not in ((0,), (0, 1, 0), (0,) * 8)]
    told += [((row,), 0) for row in first]
    told += [((row, good, good), 0) for row in first]
    told += [(((),), 0), (((), ()), 0), (((0,) * 9, (0,) * 9), 0), (((0,) * 7 + (marks,),), 0), ((0, 1), 0)]
    for row in wrong_rows(marks):
        told += [((good, row), 1), ((good, good, row, row), 2), ((good,) * 127 + (row,), 127)]
        told += [((good,) * 5 + (row,) + (good,) * 125, 5), ((good,) * 128 + (row,), 128)]
        told += [((good,) * 130 + (row,), 128), ((good, good, row, good, (0,)), 2)]
    told += [((good,) * 129, 128), ((good,) * 131, 128), (((0,),) * 129, 128), (((0,) * 8,) * 131, 128)]
    return told


def no_lots(keys):
    """What is no lot of so many keys, and ()."""
    values = [value for value in any_values() if type(value) is not tuple]
    values += [(), (keys,), (-1,), (0, keys), (0, 0), (True,), (False,), (None,), ("0",), ((0,),), ((),), ([0],), ({},)]
    values += [(0, True), (False, keys - 1), (-1, 0), (0, -1), (0, 10 ** 30), (-10 ** 30,), tuple(range(keys + 1))]
    values += [(keys - 1, 0), (0, None), [0], list(range(keys)), (0,) * 300, tuple(range(300)), nested(14, tuple)]
    return values


def wrong_lots_and_none(keys):
    return given(InvalidLot, no_lots(keys))


def wrong_fractions():
    """What is no fraction; what is one if it is written otherwise is among it."""
    return [
        None, True, False, 0, 1, -1, "", "12", "1/2", b"12", [], [1, 2], {}, {1: 2}, (), (1,), (1, 2, 3), ((1, 2),),
        (2, 4), (2, 2), (-2, 2), (0, 2), (0, -1), (0, 0), (1, 0), (-1, 0), (1, -1), (-1, -2), (3, -2), (1, -10 ** 30),
        (True, 1), (1, True), (False, 1), (0, True), (True, True), (True, 2), (None, 1), (1, None), ("1", 2),
        (1, "2"), ((1, 2), 3), (1, (2, 3)), ([1], 2), (1, [2]), ({}, 1), (1, {}), (10 ** 30, 10 ** 31),
        (3 * 10 ** 30, 9), (10 ** 399, 10 ** 399), (10 ** 399, -1), range(2), range(1, 3), object(), Something(),
        nested(12, tuple), nested(12, list), (nested(10, tuple), 1), (1, nested(10, list)), {1, 2}, frozenset((1, 2)),
    ]


RIGHT_FRACTIONS = ((0, 1), (1, 1), (-1, 1), (1, 2), (-1, 2), (7, 3), (10 ** 30, 3), (-10 ** 399, 7), (1, 10 ** 399))


def no_rows_of_fractions(length, right):
    """Pairs of what is no tuple of so many fractions and the index that is told; right is such a tuple."""
    told = [(value, None) for value in any_values() if type(value) is not tuple or len(value) != length]
    told += [((), None), (list(right), None), (right[:-1], None), (right + ((1, 1),), None), (right * 2, None)]
    told += [((right,), None), ([list(one) for one in right], None), (dict(enumerate(right)), None)]
    told += [(((2, 4),) * (length + 1), None), (((2, 4),) * (length - 1), None), (((1, 1),) * 300, None)]
    for wrong in wrong_fractions():
        for at in (0, length // 2, length - 1):
            told.append((right[:at] + (wrong,) + right[at + 1:], at))
        told += [((wrong,) * length, 0), (right[:1] + (wrong,) * (length - 1), 1)]
    return told


def wrong_questions(length):
    right = tuple(RIGHT_FRACTIONS[at % len(RIGHT_FRACTIONS)] for at in range(length))
    return indexed(InvalidQuestion, no_rows_of_fractions(length, right))


def some_shares(length):
    """Shares of so many counts: all 0 but two, or one."""
    if length == 1:
        return ((1, 1),)
    return ((1, 3),) + ((0, 1),) * (length - 2) + ((2, 3),)


def no_shares(length):
    """Pairs of what is no tuple of so many fractions from 0 on with the sum 1, and the index that is told."""
    right = some_shares(length)
    told = no_rows_of_fractions(length, right)
    nil = (0, 1)
    for at in range(length):
        for below in ((-1, 3), (-1, 1), (-10 ** 30, 7), (-1, 10 ** 399)):
            told.append((right[:at] + (below,) + right[at + 1:], at))
            told.append((right[:at] + (below,) * (length - at), at))
    told.append((((-1, 1), (2, 1)) + (nil,) * (length - 2), 0))
    told.append(((nil,) * (length - 2) + ((2, 1), (-1, 1)), length - 1))
    # All are fractions from 0 on, but the sum is another one.
    told += [((nil,) * length, None), (((1, 1),) * length, None), ((nil,) * (length - 1) + ((1, 2),), None)]
    told += [(right[:-1] + ((2 * 10 ** 30 + 3, 3 * 10 ** 30),), None), (((10 ** 30, 1),) + (nil,) * (length - 1), None)]
    told += [(((1, 2), (1, 3)) + (nil,) * (length - 2), None), (((1, 2), (2, 3)) + (nil,) * (length - 2), None)]
    # The sum is told behind each fraction alone.
    told.append((((1, 1),) * (length - 1) + ((2, 2),), length - 1))
    return told


def wrong_shares(length):
    return indexed(InvalidShares, no_shares(length))


def wrong_sources(keys):
    return indexed(InvalidSource, no_shares(keys))


def wrong_given_fractions():
    return given(InvalidFraction, wrong_fractions())


def wrong_given_parts():
    """Of what is no fraction from 0 on."""
    return given(InvalidFraction, wrong_fractions() + [(-1, 1), (-1, 10 ** 399), (-10 ** 30, 7)])


def wrong_prices(keys, size):
    """Of what is no row prices of two keys or more; with all of them 0 each f(i) is 1."""
    nil = ((0, 1),) * keys
    told = no_rows_of_fractions(keys, nil)
    for at in range(keys):
        for one in ((1, 1), (1, 10 ** 399), (10 ** 30, 7)):
            if at >= size:
                told += [(nil[:at] + (one,) + nil[at + 1:], at), (nil[:at] + (one,) * (keys - at), at)]
                told.append((((-9, 1),) * at + (one,) + nil[at + 1:], at))
                told.append((nil[:at] + (one,) + ((2, 2),) * (keys - 1 - at), at))
        # So far below 0 a price makes f(0) fall below it; the first one, where it may be so far above 0, f(KEYS).
        told += [(nil[:at] + (one,) + nil[at + 1:], None) for one in ((-10, 1), (-10 ** 30, 7))]
    told += [(((-10, 1),) * keys, None), (((10 if size else -10, 1),) + nil[1:], None)]
    return indexed(InvalidPrices, told)


def wrong_forgeries(marks, keys, lot, patterns):
    """Of what is no forgery for this lot of these keys, on which just these patterns come, ascending."""
    key = [one for one in range(keys) if one not in lot][0]
    right = tuple((pattern, key, 0) for pattern in patterns)
    many = len(patterns)
    told = [(value, None) for value in any_values() if type(value) is not tuple or len(value) != many]
    told += [(list(right), None), (right + right[:1], None), (right[1:], None), (right * 2, None), ({0: right}, None)]
    told += [(None, None), ((), None), ((right,) * (many + 1), None)]
    for at, pattern in enumerate(patterns):
        for wrong in no_triples(marks, keys, lot, pattern, key):
            told.append((right[:at] + (wrong,) + right[at + 1:], at))
            told.append((right[:at] + (wrong,) * (many - at), at))
    if many > 1:
        told += [(right[::-1], 0), (right[1:] + right[:1], 0), (right[:1] * many, 1), (right[-1:] * many, 0)]
    return indexed(InvalidForgery, told)


def no_triples(marks, keys, lot, pattern, key):
    """What is no triple of this pattern, a key not in the lot, and a mark; right is one with this key and 0."""
    other = tuple((mark + 1) % marks for mark in pattern)
    values = [value for value in any_values()]
    values += [[pattern, key, 0], (pattern, key), (pattern, key, 0, 0), (key, pattern, 0), ((pattern,), key, 0)]
    values += [(list(pattern), key, 0), (pattern + (0,), key, 0), (None, key, 0), ("", key, 0), (0, key, 0)]
    if pattern:
        values += [(other, key, 0), (pattern[1:], key, 0), ((), key, 0), (tuple(map(str, pattern)), key, 0)]
    if 0 in pattern or 1 in pattern:
        values.append((tuple(bool(mark) if mark < 2 else mark for mark in pattern), key, 0))
    wrong_keys = [keys, -1, True, False, None, "0", (key,), [key], {}, 10 ** 30, -10 ** 30, object(), *lot]
    values += [(pattern, wrong, 0) for wrong in wrong_keys]
    wrong_marks_there = [marks, -1, True, False, None, "0", (0,), [0], {}, 10 ** 30, -10 ** 30, object()]
    values += [(pattern, key, wrong) for wrong in wrong_marks_there]
    return values


def wrong_powers(marks, many):
    """Of what is no powers with a sum up to so many."""
    length = marks - 1
    nil = (0,) * length
    right = set(part for part in product(range(many + 1), repeat=length) if sum(part) <= many)
    values = [value for value in any_values() if type(value) is not tuple]
    values += [(), list(nil), nil + (0,), nil[:-1], (nil,), (many + 1,) + nil[1:], nil[1:] + (many + 1,)]
    for wrong in (-1, True, False, None, "0", (), (0,), [0], {}, 10 ** 30, -10 ** 30, many + 1, b"", range(1)):
        values += [nil[:at] + (wrong,) + nil[at + 1:] for at in range(length)]
    values += [part for part in product(range(-1, many + 2), repeat=length) if part not in right]
    values += [(0,) * 300, (many,) * (length + 1), nested(14, tuple)]
    return given(InvalidPowers, values)


def no_rows_of_keys(keys):
    """Pairs of what is no tuple of unlike keys, of so many, and the index that is told."""
    told = [(value, None) for value in any_values() if type(value) is not tuple or value == ()]
    told += [([0], None), (list(range(keys)), None), ({0: 0}, None)]
    wrong = [keys, -1, True, False, None, "0", b"0", (0,), (), [0], {}, 10 ** 30, -10 ** 30, range(1), object()]
    for one in wrong:
        told += [((one,), 0), ((one, 0), 0), ((0, one), 1), ((0, one, one), 1), ((keys - 1, 0, one, 0), 2)]
    told += [((0, 0), 1), ((0, keys - 1, 0), 2), ((0, keys - 1, keys - 1, -1), 2), ((0,) * 300, 1)]
    told += [(tuple(range(keys)) + (0,), keys), (tuple(range(keys)) + (keys,), keys), (tuple(range(300)), keys)]
    told += [(tuple(range(keys))[::-1] + (keys - 1,), keys), ((0, 1, 1, keys), 2), ((0, 1, keys, 1), 2)]
    return told


def wrong_rows_of_keys(keys):
    return indexed(InvalidKeys, no_rows_of_keys(keys))


def wrong_orders(marks):
    """Of what is no tuple of all marks, each once."""
    right = tuple(range(marks))
    values = [value for value in any_values() if type(value) is not tuple]
    values += [(), list(right), right + (0,), right + (marks,), right[:-1], right[1:], (right,), (0,) * marks]
    values += [right[:-1] + (wrong,) for wrong in (marks, -1, 0, True, None, "1", (1,), [1], {}, 10 ** 30, -10 ** 30)]
    values += [(False,) + right[1:], (True,) + right[:1] + right[2:], right[:1] + (True,) + right[2:], right * 100]
    values += [one for one in product(range(marks), repeat=marks) if len(set(one)) < marks]
    return given(InvalidOrder, values)


def wrong_maps(marks, fewer):
    """Of what is no tuple of as many marks below fewer as there are marks, all of them alike often."""
    right = tuple(mark % fewer for mark in range(marks))
    values = [value for value in any_values() if type(value) is not tuple]
    values += [(), list(right), right + (0,), right[:-1], (right,), right * 2, right * 100]
    wrong = (fewer, -1, True, None, "1", (1,), [1], {}, 10 ** 30, -10 ** 30)
    values += [right[:-1] + (one,) for one in wrong] + [(False,) + right[1:]]
    for one in product(range(fewer + 1), repeat=marks):
        if any(one.count(mark) * fewer != marks for mark in range(fewer)):
            values.append(one)
    return given(InvalidMap, values)


def no_vectors(prime):
    """Pairs of what is no vectors for the prime and the index that is told."""
    good = (0, prime - 1)
    told = [(value, None) for value in any_values() if type(value) is not tuple or value == ()]
    told += [([good], None), ([list(good)], None), ({good: good}, None)]
    wrong = [
        None, True, 0, "01", b"01", [], [0, 1], {0: 1, 1: 0}, (0, prime), (prime, 0), (0, -1), (-1, 0), (0, True),
        (False, 0), (0, None), (0, "1"), (0, [1]), ((0,), 1), ((0, 1),), ([0, 1],), (0, 10 ** 30), (-10 ** 30, 0),
        (0,) * 7, (0,) * 300, range(2), object(),
    ]
    for one in wrong:
        told += [((one,), 0), ((one, good, good), 0)]
    for one in wrong + [(), (0,), (0, 1, 0), (0,) * 6]:
        told += [((good, one), 1), ((good, good, one, one), 2), ((good,) * 7 + (one,), 7), ((good,) * 8 + (one,), 8)]
        told += [((good,) * 3 + (one,) + (good,) * 20, 3)]
    told += [((good,) * 9, 8), ((good,) * 300, 8), (((),) * 9, 8), (((0,) * 6,) * 9, 8), (((), (0,)), 1), ((0, 1), 0)]
    return told


def wrong_vectors(prime):
    return indexed(InvalidVectors, no_vectors(prime))


def no_orders():
    """Pairs of what is no orders and the index that is told, in which right orders have three keys."""
    good = (2, 0, 1)
    told = [(value, None) for value in any_values() if type(value) is not tuple or value == ()]
    told += [([good], None), ([list(good)], None), ({good: good}, None), ({0: good}, None), (iter((good,)), None)]
    wrong = [
        None, True, 0, "012", b"012", [], [0, 1, 2], {0: 0, 1: 1, 2: 2}, (0, 1, 3), (1, 2, 3), (0, 0, 1), (0, 1, 1),
        (0, 0, 0), (-1, 0, 1), (0, 1, True), (False, 1, 2), (0, True, 2), (0, 1, None), (0, 1, "2"), (0, 1, [2]),
        ((0,), 1, 2), ((0, 1, 2),), (0, 1, 10 ** 30), (-10 ** 30, 1, 2), (), tuple(range(7)), tuple(range(300)),
        (1,), (0, 2), (0, 1, 2, 4), (0, 1, 2, 2), range(3), object(), nested(13, tuple),
    ]
    for one in wrong:
        told += [((one,), 0), ((one, good, good), 0), ((one, one), 0)]
    for one in wrong + [(0,), (0, 1), (1, 0, 3, 2), (0, 1, 2, 3, 4, 5)]:
        told += [((good, one), 1), ((good, good, one, one), 2), ((good,) * 119 + (one,), 119)]
        told += [((good,) * 120 + (one,), 120), ((good,) * 5 + (one,) + (good,) * 125, 5)]
    told += [((good,) * 121, 120), ((good,) * 300, 120), (((0,),) * 121, 120), ((tuple(range(6)),) * 121, 120)]
    told += [((tuple(range(7)),) * 2, 0), ((0, 1, 2), 0), (((0, 1), (0, 1, 2), (1, 0)), 1)]
    return told


def wrong_rows_of_orders():
    return indexed(InvalidOrders, no_orders())


def wrong_filled_lots(keys):
    return given(InvalidLot, no_lots(keys))


def wrong_lots(keys):
    """Of what is no lot of so many keys; () is one."""
    return given(InvalidLot, [value for value in no_lots(keys) if not (type(value) is tuple and value == ())])
