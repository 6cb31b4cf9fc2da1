"""One mark alone: how many of some keys get it, for all tables of a told evenness."""

from math import comb

from seedtables.common import LEAST_MARKS, check_number, check_question, is_between, power
from seedtables.counts import negated, solved
from seedtables.errors import InvalidMarks

MOST_MARKS_ALONE = 60
MOST_KEYS_ALONE = 12
MOST_SIZE = 6


def at_least(many, least):
    """The question that is 1 from least keys on, 0 below."""
    check_number(many, 1, MOST_KEYS_ALONE)
    check_number(least, 0, many)
    return tuple([(1, 1) if keys >= least else (0, 1) for keys in range(many + 1)])


def greatest_single(marks, many, size, question):
    """The greatest mean of the question over all shares even up to the size."""
    check_asked_single(marks, many, size, question)
    return single_answer(marks, many, size, question)[0]


def least_single(marks, many, size, question):
    """The least mean of the question over all shares even up to the size."""
    check_asked_single(marks, many, size, question)
    above, below = single_answer(marks, many, size, negated(question))[0]
    return (-above, below)


def reaching_single(marks, many, size, question):
    """Shares even up to the size with the greatest mean of the question."""
    check_asked_single(marks, many, size, question)
    return single_answer(marks, many, size, question)[1]


def bounding_single(marks, many, size, question):
    """A polynomial at each number of keys at least the question, whose even mean is the greatest mean."""
    check_asked_single(marks, many, size, question)
    return single_answer(marks, many, size, question)[2]


def check_asked_single(marks, many, size, question):
    """Raises what is told of the arguments of a question."""
    if not is_between(marks, LEAST_MARKS, MOST_MARKS_ALONE):
        raise InvalidMarks(marks)
    check_number(many, 1, MOST_KEYS_ALONE)
    check_number(size, 0, min(MOST_SIZE, many))
    check_question(question, many + 1)


def single_answer(marks, many, size, question):
    """The greatest mean, shares that reach it, a polynomial that bounds it, for arguments that are right."""
    even = [comb(many, keys) * power(marks - 1, many - keys) for keys in range(many + 1)]
    return solved([(keys,) for keys in range(many + 1)], size, even, question)
