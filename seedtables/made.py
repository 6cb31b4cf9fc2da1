"""Made tables: of polynomials, of vectors, of sums, of tables behind one another."""

from itertools import combinations

from seedtables.common import MOST_KEYS, MOST_ROWS
from seedtables.common import check_many, check_number, check_table, first_wrong_row, is_between, is_filled_tuple
from seedtables.common import is_lot, is_tuple_of, is_whole, power
from seedtables.errors import InvalidLot, InvalidMarks, InvalidVectors, UnlikeTables
from seedtables.tables import pattern_at

PRIMES = (2, 3, 5)
MOST_SIZE = 7
MOST_PLACES = 6
MOST_VECTORS = 8


def polynomial_table(prime, size, keys):
    """A row for each tuple of so many marks, with the value at each key of the polynomial that they make."""
    check_prime(prime)
    check_number(size, 1, MOST_SIZE)
    check_number(keys, 1, prime)
    return weighed_table(prime, [[power(key, place) for place in range(size)] for key in range(keys)])


def straight_table(prime, vectors):
    """A row for each tuple of marks (a_1, .., a_d, c), with a . x + c at the key with the vector x."""
    check_vectors(prime, vectors)
    return weighed_table(prime, lengthened(vectors))


def free_strength(prime, vectors):
    """The strength of the straight table, told by ties."""
    check_vectors(prime, vectors)
    size = 0
    while size < len(vectors) and first_tied_lot(prime, vectors, size + 1) is None:
        size += 1
    return size


def tie_of(prime, vectors, lot):
    """A tie of the lot, None if there is none."""
    check_vectors(prime, vectors)
    if not is_lot(len(vectors), lot) or len(lot) == 0:
        raise InvalidLot(lot)
    return tie_on(prime, vectors, lot)


def sums_table(marks, table, other):
    """For each row of the first table and one of the other one the sums of their marks, for each pair of keys."""
    check_table(marks, table)
    check_table(marks, other)
    check_many(len(table[0]) * len(other[0]), MOST_KEYS)
    check_many(len(table) * len(other), MOST_ROWS)
    return tuple([
        tuple([(mark + added) % marks for mark in row for added in second])
        for row in table
        for second in other
    ])


def behind(marks, table, fewer, other):
    """For each row of the table and one of the other one, which has a key for each mark, its mark there."""
    check_table(marks, table)
    check_table(fewer, other)
    if len(other[0]) != marks:
        raise UnlikeTables()
    check_many(len(table) * len(other), MOST_ROWS)
    return tuple([tuple([second[mark] for mark in row]) for row in table for second in other])


def check_prime(prime):
    """Raises what is told of an argument that is no prime."""
    if not is_whole(prime) or prime not in PRIMES:
        raise InvalidMarks(prime)


def check_vectors(prime, vectors):
    """Raises what is told of a prime, then what is told of an argument that is no vectors for it."""
    check_prime(prime)
    if not is_filled_tuple(vectors):
        raise InvalidVectors(None)
    index = first_wrong_row(prime, vectors, 0, MOST_PLACES, MOST_VECTORS)
    if index is not None:
        raise InvalidVectors(index)


def lengthened(vectors):
    """The vectors with a 1 behind the numbers of each, as a list."""
    return [(*vector, 1) for vector in vectors]


def weighed_table(prime, weights):
    """A row for each tuple of marks, in order, with its sum of weights times marks at the key of each weights."""
    places = len(weights[0])
    rows = power(prime, places)
    check_many(rows, MOST_ROWS)
    patterns = [pattern_at(prime, places, index) for index in range(rows)]
    return tuple([tuple([weighed_sum(pattern, one) % prime for one in weights]) for pattern in patterns])


def weighed_sum(pattern, weights):
    """The sum of the marks of the pattern, or other numbers, times the weights."""
    return sum([mark * weight for mark, weight in zip(pattern, weights)])


def first_tied_lot(prime, vectors, size):
    """A pair of the first lot of so many of these vectors that has a tie, and of one, None if there is none."""
    for lot in combinations(range(len(vectors)), size):
        tie = tie_on(prime, vectors, lot)
        if tie is not None:
            return (lot, tie)
    return None


def tie_on(prime, vectors, lot):
    """A tie of the lot, None if there is none, for arguments that are right."""
    longer = lengthened([vectors[key] for key in lot])
    # The sums of each half are far fewer than those of all.
    half = len(lot) // 2
    ahead = reached_sums(prime, len(longer[0]), longer[:half])
    rest = reached_sums(prime, len(longer[0]), longer[half:])
    for total in rest:
        opposite = tuple([-part % prime for part in total])
        if opposite in ahead:
            return ahead[opposite] + rest[total]
    return None


def is_tie(prime, vectors, lot, value):
    """Whether a value, whatever it is, is a tie of the lot."""
    if not is_tuple_of(len(lot), value) or not all([is_between(number, 1, prime - 1) for number in value]):
        return False
    longer = lengthened([vectors[key] for key in lot])
    for place in range(len(longer[0])):
        if weighed_sum(value, [vector[place] for vector in longer]) % prime != 0:
            return False
    return True


def reached_sums(prime, places, vectors):
    """The sums of the vectors times numbers from 1 on, each with such numbers."""
    reached = {(0,) * places: ()}
    for vector in vectors:
        further = {}
        for total, numbers in reached.items():
            for number in range(1, prime):
                moved = tuple([(part + number * one) % prime for part, one in zip(total, vector)])
                further[moved] = (*numbers, number)
        reached = further
    return reached
