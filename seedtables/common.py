"""What several modules share: whole numbers, fractions, tuples of marks, checks of arguments, straight programs."""

from math import gcd, lcm

from seedtables.errors import InvalidKey, InvalidLot, InvalidMarks, InvalidNumber, InvalidQuestion
from seedtables.errors import InvalidTable, TooMany

LEAST_MARKS = 2
MOST_MARKS = 5
MOST_KEYS = 8
MOST_ROWS = 128


def is_whole(value):
    """Whether a value is a whole number: True and False are none."""
    return isinstance(value, int) and not isinstance(value, bool)


def is_between(value, least, most):
    """Whether a value is a whole number from least up to most."""
    return is_whole(value) and least <= value <= most


def is_tuple_of(many, value):
    """Whether a value is a tuple of so many things, whatever they are."""
    return isinstance(value, tuple) and len(value) == many


def is_row(marks, keys, value):
    """Whether a value is a tuple of so many marks."""
    return is_tuple_of(keys, value) and all(is_between(mark, 0, marks - 1) for mark in value)


def is_fraction(value):
    """Whether a value is a pair of whole numbers in lowest terms, the second one above 0."""
    if not is_tuple_of(2, value):
        return False
    above, below = value
    return is_whole(above) and is_whole(below) and below > 0 and gcd(above, below) == 1


def is_part(value):
    """Whether a value is a fraction from 0 on."""
    return is_fraction(value) and value[0] >= 0


def is_lot(keys, value):
    """Whether a value is an ascending tuple of indexes below keys."""
    if not isinstance(value, tuple):
        return False
    least = 0
    for key in value:
        if not is_between(key, least, keys - 1):
            return False
        least = key + 1
    return True


def is_filled_tuple(value):
    """Whether a value is a tuple other than ()."""
    return isinstance(value, tuple) and len(value) > 0


def first_wrong_row(marks, rows, least=1, longest=MOST_KEYS, most=MOST_ROWS):
    """The index of the first row that makes a tuple other than () no table, None for a table.

    The rows have least to longest marks; there are up to most of them.
    """
    first = rows[0]
    if not isinstance(first, tuple) or not least <= len(first) <= longest:
        return 0
    for index, row in enumerate(rows):
        if index == most or not is_row(marks, len(first), row):
            return index
    return None


def check_marks(marks):
    """Raises what is told of an argument that is no number of marks."""
    if not is_between(marks, LEAST_MARKS, MOST_MARKS):
        raise InvalidMarks(marks)


def check_table(marks, table):
    """Raises what is told of marks, then what is told of an argument that is no table of them."""
    check_marks(marks)
    if not is_filled_tuple(table):
        raise InvalidTable(None)
    index = first_wrong_row(marks, table)
    if index is not None:
        raise InvalidTable(index)


def check_key(table, key):
    """Raises what is told of an argument that is no index of a key."""
    if not is_between(key, 0, len(table[0]) - 1):
        raise InvalidKey(key)


def check_lot(table, lot):
    """Raises what is told of an argument that is no lot of the table's keys."""
    if not is_lot(len(table[0]), lot):
        raise InvalidLot(lot)


def check_number(value, least, most):
    """Raises what is told of an argument that is no whole number from least up to most."""
    if not is_between(value, least, most):
        raise InvalidNumber(value)


def check_question(question, many):
    """Raises what is told of an argument that is no tuple of so many fractions."""
    if not is_tuple_of(many, question):
        raise InvalidQuestion(None)
    for index, one in enumerate(question):
        if not is_fraction(one):
            raise InvalidQuestion(index)


def check_many(many, most):
    """Raises what is told of more things than are let."""
    if many > most:
        raise TooMany(many)


def power(base, times):
    """The product of so many times the base, 1 for none."""
    result = 1
    for _ in range(times):
        result = result * base
    return result


def fraction_of(above, below):
    """The fraction above / below; below is above 0."""
    divisor = gcd(above, below)
    return (above // divisor, below // divisor)


def over_one_number(fractions):
    """The fractions times the least number with which all of them are whole, and this number."""
    number = 1
    for _, below in fractions:
        number = lcm(number, below)
    return [above * (number // below) for above, below in fractions], number


def have_sum_1(fractions):
    """Whether the sum of the fractions is 1."""
    parts, whole = over_one_number(fractions)
    return sum(parts) == whole


def is_above(one, other):
    """Whether one fraction is above another one."""
    return one[0] * other[1] > other[0] * one[1]


class Program:
    """A straight program: the greatest gain of numbers from 0 on, of which the free ones tell the held ones.

    The numbers have indexes from 0 on. Each row but the last one tells a held number, the last row tells the
    gain: the divisor times it is the last entry, less the sum of the other entries times the free numbers.
    All entries stay whole: they are minors of the first ones. The gain must have a greatest value.

    Free numbers are 0 in the end. They may begin above 0: the rows then take of each one how much more it is than
    at first, until it is settled. All of them are settled before the climb.
    """

    def __init__(self, rows, held, free):
        self.rows = rows
        self.held = list(held)
        self.free = list(free)
        self.divisor = 1

    def exchange(self, row, column):
        """Makes the held number of the row free, and the free one of the column held."""
        chosen = self.rows[row]
        pivot = chosen[column]
        sign = 1 if pivot > 0 else -1
        rows = []
        for entries in self.rows:
            factor = entries[column]
            changed = [sign * (entry * pivot - factor * one) // self.divisor for entry, one in zip(entries, chosen)]
            changed[column] = -sign * factor
            rows.append(changed)
        rows[row] = [sign * one for one in chosen]
        rows[row][column] = sign * self.divisor
        self.rows = rows
        self.divisor = abs(pivot)
        self.held[row], self.free[column] = self.free[column], self.held[row]

    def tightest_row(self, column, way):
        """The row whose held number is the first to be 0 as the free one grows, or falls for way -1, or None."""
        tightest = None
        for row in range(len(self.held)):
            if way * self.rows[row][column] > 0 and (tightest is None or self.is_tighter(row, tightest, column)):
                tightest = row
        return tightest

    def is_tighter(self, row, other, column):
        """Whether the row lets the free number go less far than the other one, or its number comes first."""
        far = self.rows[row][-1] * abs(self.rows[other][column])
        other_far = self.rows[other][-1] * abs(self.rows[row][column])
        return (far, self.held[row]) < (other_far, self.held[other])

    def settle(self, column, many):
        """Takes a free number that began as so many to 0, or among the held ones, without loss of gain."""
        way = 1 if self.rows[-1][column] < 0 else -1
        row = self.tightest_row(column, way)
        reaches_0 = way < 0 and (row is None or self.rows[row][-1] >= abs(self.rows[row][column]) * many)
        self.rows = [[*entries[:-1], entries[-1] + entries[column] * many] for entries in self.rows]
        if not reaches_0:
            self.exchange(row, column)

    def rising_column(self, is_stuck):
        """A column whose free number raises the gain as it grows, None if there is none."""
        gains = self.rows[-1]
        columns = [column for column in range(len(self.free)) if gains[column] < 0]
        # The steepest one makes few steps. While they gain nothing the first number keeps them from coming
        # round to where they were (Bland 1977).
        if is_stuck:
            return min(columns, key=lambda at: self.free[at], default=None)
        return min(columns, key=lambda at: gains[at], default=None)

    def climb(self):
        """Exchanges numbers until the gain is the greatest."""
        column = self.rising_column(False)
        while column is not None:
            row = self.tightest_row(column, 1)
            is_stuck = self.rows[row][-1] == 0
            self.exchange(row, column)
            column = self.rising_column(is_stuck)

    def gain(self):
        """The divisor times the gain."""
        return self.rows[-1][-1]

    def numbers(self):
        """The divisor times each number, by their indexes."""
        found = [0] * (len(self.held) + len(self.free))
        for row, index in enumerate(self.held):
            found[index] = self.rows[row][-1]
        return found

    def losses(self):
        """The divisor times what the gain loses by 1 more of each number, by their indexes; 0 for held ones."""
        found = [0] * (len(self.held) + len(self.free))
        for column, index in enumerate(self.free):
            found[index] = self.rows[-1][column]
        return found
