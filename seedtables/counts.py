"""Counts of marks on some keys: what holds for all tables of a told evenness."""

from math import comb

from seedtables.common import MOST_KEYS, MOST_ROWS
from seedtables.common import check_lot, check_many, check_marks, check_number, check_question, check_table
from seedtables.common import fraction_of, have_sum_1, is_between, is_part, is_tuple_of, over_one_number, power
from seedtables.common import Program
from seedtables.errors import InvalidLot, InvalidPowers, InvalidShares
from seedtables.tables import pattern_at

MOST_COUNTS = 60


def all_counts(marks, many):
    """How many of so many keys get each mark: all tuples of this, ascending."""
    check_keys(marks, many)
    check_number_of_counts(marks, many)
    return tuple(counts_of(marks, many))


def all_powers(marks, many, size):
    """All powers with a sum up to the size, ascending."""
    check_keys(marks, many)
    check_number(size, 0, many)
    check_number_of_counts(marks, many)
    return tuple(tuples_up_to(marks - 1, size))


def even_mean(marks, many, powers):
    """The falling mean that even shares have for these powers."""
    check_keys(marks, many)
    check_powers(marks, many, powers)
    check_number_of_counts(marks, many)
    return even_mean_of(marks, many, powers)


def even_shares(marks, many):
    """The shares of counts with which all patterns come alike often."""
    check_keys(marks, many)
    check_number_of_counts(marks, many)
    patterns = power(marks, many)
    return tuple([fraction_of(arrangements(counts), patterns) for counts in counts_of(marks, many)])


def counted(marks, table, lot):
    """The table's shares of counts on the lot."""
    check_table(marks, table)
    check_lot(table, lot)
    if len(lot) == 0:
        raise InvalidLot(lot)
    check_number_of_counts(marks, len(lot))
    found = {}
    for row in table:
        counts = counts_in(marks, [row[key] for key in lot])
        found[counts] = found.get(counts, 0) + 1
    return tuple([fraction_of(found.get(counts, 0), len(table)) for counts in counts_of(marks, len(lot))])


def falling_mean(marks, many, shares, powers):
    """The mean, over these shares, of the product of the numbers of lots of so many keys as the powers tell."""
    check_keys(marks, many)
    check_shares(marks, many, shares)
    check_powers(marks, many, powers)
    check_number_of_counts(marks, many)
    parts, whole = over_one_number(shares)
    return falling_mean_of(counts_of(marks, many), parts, whole, powers)


def are_even_shares(marks, many, size, shares):
    """Whether the shares have the even mean for all powers with a sum up to the size."""
    check_keys(marks, many)
    check_number(size, 0, many)
    check_shares(marks, many, shares)
    check_number_of_counts(marks, many)
    counts = counts_of(marks, many)
    parts, whole = over_one_number(shares)
    for powers in tuples_up_to(marks - 1, size):
        if falling_mean_of(counts, parts, whole, powers) != even_mean_of(marks, many, powers):
            return False
    return True


def mean_of(marks, many, shares, question):
    """The mean of the question over these shares."""
    check_keys(marks, many)
    check_shares(marks, many, shares)
    check_question(question, number_of_counts(marks, many))
    check_number_of_counts(marks, many)
    parts, whole = over_one_number(shares)
    values, number = over_one_number(question)
    return fraction_of(sum([part * value for part, value in zip(parts, values)]), whole * number)


def greatest_mean(marks, many, size, question):
    """The greatest mean of the question over all shares even up to the size."""
    check_asked(marks, many, size, question)
    return counts_answer(marks, many, size, question)[0]


def least_mean(marks, many, size, question):
    """The least mean of the question over all shares even up to the size."""
    check_asked(marks, many, size, question)
    above, below = counts_answer(marks, many, size, negated(question))[0]
    return (-above, below)


def reaching_shares(marks, many, size, question):
    """Shares even up to the size with the greatest mean of the question."""
    check_asked(marks, many, size, question)
    return counts_answer(marks, many, size, question)[1]


def bounding_polynomial(marks, many, size, question):
    """A polynomial at each counts at least the question, whose even mean is the greatest mean."""
    check_asked(marks, many, size, question)
    return counts_answer(marks, many, size, question)[2]


def table_of(marks, many, shares):
    """The table with the fewest rows that has these shares, and for each counts all arrangements alike often."""
    check_keys(marks, many)
    check_shares(marks, many, shares)
    check_number_of_counts(marks, many)
    counts = counts_of(marks, many)
    of_each = [fraction_of(above, below * arrangements(one)) for one, (above, below) in zip(counts, shares)]
    # With so many rows, and with no fewer, each arrangement comes a whole number of times.
    times, rows = over_one_number(of_each)
    check_many(rows, MOST_ROWS)
    times_of = {one: times_of_one for one, times_of_one in zip(counts, times)}
    patterns = [pattern_at(marks, many, index) for index in range(power(marks, many))]
    return tuple([pattern for pattern in patterns for _ in range(times_of[counts_in(marks, pattern)])])


def check_keys(marks, many):
    """Raises what is told of marks, then what is told of an argument that is no number of keys."""
    check_marks(marks)
    check_number(many, 1, MOST_KEYS)


def check_number_of_counts(marks, many):
    """Raises what is told of more counts than are let."""
    check_many(number_of_counts(marks, many), MOST_COUNTS)


def check_powers(marks, many, powers):
    """Raises what is told of an argument that is no powers with a sum up to so many."""
    right = is_tuple_of(marks - 1, powers) and all([is_between(one, 0, many) for one in powers])
    if not right or sum(powers) > many:
        raise InvalidPowers(powers)


def check_shares(marks, many, shares):
    """Raises what is told of an argument that is no shares of counts."""
    if not is_tuple_of(number_of_counts(marks, many), shares):
        raise InvalidShares(None)
    for index, share in enumerate(shares):
        if not is_part(share):
            raise InvalidShares(index)
    if not have_sum_1(shares):
        raise InvalidShares(None)


def check_asked(marks, many, size, question):
    """Raises what is told of the arguments of a question."""
    check_keys(marks, many)
    check_number(size, 0, many)
    check_question(question, number_of_counts(marks, many))
    check_number_of_counts(marks, many)


def number_of_counts(marks, many):
    """How many counts of so many keys there are."""
    return comb(many + marks - 1, many)


def tuples_up_to(length, most):
    """All tuples of so many whole numbers from 0 on with a sum up to most, ascending, as a list."""
    found = [()]
    for _ in range(length):
        found = [(*ahead, one) for ahead in found for one in range(most - sum(ahead) + 1)]
    return found


def counts_of(marks, many):
    """All counts of so many keys, ascending, as a list."""
    return [(*ahead, many - sum(ahead)) for ahead in tuples_up_to(marks - 1, many)]


def counts_in(marks, row):
    """How often each mark comes in a row."""
    return tuple([row.count(mark) for mark in range(marks)])


def arrangements(counts):
    """How many patterns have these counts."""
    ways, keys = 1, 0
    for many in counts:
        keys += many
        ways = ways * comb(keys, many)
    return ways


def lots_product(counts, powers):
    """The product of the numbers of lots of j of n things, over the powers j and the counts n."""
    ways = 1
    for many, one in zip(counts, powers):
        ways = ways * comb(many, one)
    return ways


def even_mean_of(marks, many, powers):
    """The even mean, for arguments that are right."""
    taken = sum(powers)
    return fraction_of(arrangements((*powers, many - taken)), power(marks, taken))


def falling_mean_of(counts, parts, whole, powers):
    """The falling mean for shares of all counts, told by parts of a whole."""
    return fraction_of(sum([part * lots_product(one, powers) for one, part in zip(counts, parts)]), whole)


def negated(question):
    """The question with each fraction the other way round from 0."""
    return tuple([(-above, below) for above, below in question])


def counts_answer(marks, many, size, question):
    """The greatest mean, shares that reach it, a polynomial that bounds it, for arguments that are right."""
    counts = counts_of(marks, many)
    even = [arrangements(one) for one in counts]
    return solved([one[:-1] for one in counts], size, even, question)


def solved(points, size, even, question):
    """The greatest mean of a question over shares even up to the size, shares that reach it, a bounding polynomial.

    The points, one for each share, are all tuples of their length with sums up to some number, ascending; even are
    whole numbers above 0, to one another as the even shares are.
    """
    values, number = over_one_number(question)
    program = program_of(points, size, even, values)
    program.climb()
    whole = program.divisor * sum(even)
    mean = fraction_of(program.gain(), whole * number)
    shares = tuple([fraction_of(one, whole) for one in program.numbers()])
    # By what the gain loses with a share the polynomial is above the question at its point.
    heights = [value * program.divisor + loss for value, loss in zip(values, program.losses())]
    factors = factors_of(points, size, heights)
    return (mean, shares, tuple([fraction_of(one, program.divisor * number) for one in factors]))


def program_of(points, size, even, values):
    """The straight program of a question, settled: its numbers are shares and its gain is their mean.

    Both are told times the sum of the even ones. The shares of the points with sums up to the size are told by the
    other ones, since a polynomial of this degree is told by its values there.
    """
    held = [index for index, point in enumerate(points) if sum(point) <= size]
    free = [index for index, point in enumerate(points) if sum(point) > size]
    rows = [[base_value(points[base], points[index], size) for index in free] for base in held]
    losses = []
    for column, index in enumerate(free):
        told = sum([values[base] * row[column] for base, row in zip(held, rows)])
        losses.append(told - values[index])
    gain = sum([value * one for value, one in zip(values, even)])
    program = Program([[*row, even[base]] for base, row in zip(held, rows)] + [[*losses, gain]], held, free)
    for column, index in enumerate(free):
        program.settle(column, even[index])
    return program


def base_value(base, point, size):
    """The value, at a point with a sum above the size, of a polynomial of this degree.

    It is 1 at the base and 0 at all other points with sums up to the size.
    """
    # It is the sum, over the powers j from the base on, of lots_product(point, j) * lots_product(j, base) with signs
    # by turns. With all j of one sum together these are alternating numbers of lots, which sum up to one such.
    rest = size - sum(base)
    return power(-1, rest) * comb(sum(point) - sum(base) - 1, rest) * lots_product(point, base)


def factors_of(points, size, heights):
    """The factors, for all powers, of the polynomial of this degree with these heights at the points."""
    low = [index for index, point in enumerate(points) if sum(point) <= size]
    return [newton_sum([points[index] for index in low], [heights[index] for index in low], points[at]) for at in low]


def newton_sum(points, heights, powers):
    """The factor for these powers by Newton's differences: only points with no number above the powers' count."""
    terms = [
        power(-1, sum(powers) + sum(point)) * lots_product(powers, point) * height
        for point, height in zip(points, heights)
    ]
    return sum(terms)
