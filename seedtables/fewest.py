"""How few rows there can be: Rao's number, shares of unlikeness, row prices, the fewest rows told."""

from math import comb

from seedtables.common import Program
from seedtables.common import check_marks, check_number, fraction_of, is_fraction, is_part, is_tuple_of
from seedtables.common import over_one_number, power
from seedtables.errors import InvalidPrices
from seedtables.leans import character_sum

MOST_KEYS_TOLD = 12


def rao_number(marks, keys, size):
    """Rao's number, which no table even up to the size has fewer rows than."""
    check_sizes(marks, keys, size)
    if size % 2 == 0:
        return lines_up_to(marks, keys, size // 2)
    return marks * lines_up_to(marks, keys - 1, size // 2)


def least_sum(marks, keys, size):
    """The least sum of shares of unlikeness."""
    check_sizes(marks, keys, size)
    return rows_answer(marks, keys, size)[0]


def least_shares(marks, keys, size):
    """Shares of unlikeness with the least sum."""
    check_sizes(marks, keys, size)
    return rows_answer(marks, keys, size)[1]


def row_prices(marks, keys, size):
    """Row prices that have the least sum as bound."""
    check_sizes(marks, keys, size)
    return rows_answer(marks, keys, size)[2]


def price_bound(marks, keys, size, prices):
    """The bound that these row prices have."""
    check_sizes(marks, keys, size)
    check_prices(marks, keys, size, prices)
    heights, whole = price_heights(marks, keys, prices)
    return fraction_of(heights[0], whole)


def fewest_rows(marks, keys, size):
    """The least multiple of the number of patterns that is not below the least sum."""
    check_sizes(marks, keys, size)
    above, below = rows_answer(marks, keys, size)[0]
    patterns = power(marks, size)
    return -(-above // (below * patterns)) * patterns


def check_sizes(marks, keys, size):
    """Raises what is told of marks, a number of keys and a size up to it."""
    check_marks(marks)
    check_number(keys, 1, MOST_KEYS_TOLD)
    check_number(size, 0, keys)


def check_prices(marks, keys, size, prices):
    """Raises what is told of an argument that is no row prices."""
    if not is_tuple_of(keys, prices):
        raise InvalidPrices(None)
    for index, price in enumerate(prices):
        # The first price is f_1: from this index on they stand for more keys than the size.
        if not is_fraction(price) or (index >= size and price[0] > 0):
            raise InvalidPrices(index)
    if min(price_heights(marks, keys, prices)[0]) < 0:
        raise InvalidPrices(None)


def lines_up_to(marks, keys, most):
    """How many rows are unlike a row at no more than so many keys."""
    return sum([comb(keys, unlike) * power(marks - 1, unlike) for unlike in range(most + 1)])


def characters(marks, keys):
    """The document's K_j(i), by j and then by i, as lists."""
    return [[character_sum(marks, keys, many, unlike) for unlike in range(keys + 1)] for many in range(keys + 1)]


def price_heights(marks, keys, prices):
    """The document's f(0), f(1), .., each times a whole number, and this number."""
    parts, whole = over_one_number(prices)
    weights = characters(marks, keys)
    heights = []
    for unlike in range(keys + 1):
        told = [part * row[unlike] for part, row in zip(parts, weights[1:])]
        heights.append(whole + sum(told))
    return heights, whole


def are_shares_of_unlikeness(marks, keys, size, value):
    """Whether a value, whatever it is, is shares of unlikeness."""
    if not is_tuple_of(keys + 1, value) or not all([is_part(share) for share in value]):
        return False
    parts, whole = over_one_number(value)
    if parts[0] < whole:
        return False
    for many, row in enumerate(characters(marks, keys)):
        told = sum([part * weight for part, weight in zip(parts, row)])
        if told < 0 or (1 <= many <= size and told != 0):
            return False
    return True


def rows_answer(marks, keys, size):
    """The least sum, shares of unlikeness that have it, row prices that bound it, for arguments that are right."""
    weights = characters(marks, keys)
    program = rows_program(marks, size, weights)
    program.climb()
    patterns, divisor = power(marks, keys), program.divisor
    least = fraction_of(patterns * divisor - program.gain(), divisor)
    shares = [fraction_of(part, patterns * divisor) for part in program.numbers()[:keys]]
    # By what the gain loses with a share f is above 0 there; f_j goes back from this to the characters.
    losses = program.losses()[:keys]
    prices = []
    for many in range(1, keys + 1):
        taken = sum([loss * (row[0] - row[many]) for loss, row in zip(losses, weights[1:])])
        prices.append(fraction_of(divisor - taken, divisor))
    return (least, ((1, 1), *shares), tuple(prices))


def rows_program(marks, size, weights):
    """The straight program whose greatest gain is what the least sum is below the number of all patterns.

    Its first numbers are the shares of unlikeness but the first one, which is 1, each times the number of all
    patterns. The free ones are the sums of the shares times characters for each number of keys above the size: with
    all of them 0 the shares are those of all patterns. Of each that grows the sum of the shares loses as much.
    """
    keys = len(weights) - 1
    above = list(range(size + 1, keys + 1))
    patterns = power(marks, keys)
    rows = []
    for row in weights[1:]:
        rows.append([row[0] - row[many] for many in above] + [patterns * row[0]])
    rows.append([-1 for _ in above] + [0])
    return Program(rows, list(range(keys)), [keys + place for place in range(len(above))])
