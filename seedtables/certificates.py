"""Certificates: of two claims that exclude one another the one that is so, with a paper for the checker."""

from itertools import combinations

from seedtables.apart import blind_lot, framed, rows_apart
from seedtables.collisions import check_spread_table, worst_collision
from seedtables.common import check_number, check_table, is_above, is_fraction
from seedtables.counts import check_asked, counts_answer
from seedtables.errors import InvalidFraction
from seedtables.fewest import check_sizes, rows_answer
from seedtables.leans import lean
from seedtables.made import check_vectors, first_tied_lot
from seedtables.orders import slant, slant_pair
from seedtables.seals import best_forgery, check_seen_lot, forging_chance
from seedtables.single import check_asked_single, single_answer
from seedtables.sources import flat_source, worst_flat
from seedtables.tables import uneven_lot


def certify_even(marks, table, size):
    """That the table is even up to the size, or that it is not."""
    told = uneven_lot(marks, table, size)
    if told is None:
        return (("even", marks, table, size), ())
    return (("uneven", marks, table, size), told)


def certify_lean(marks, table, lot):
    """What the lean of the lot is."""
    return (("lean", marks, table, lot, lean(marks, table, lot)), ())


def certify_mean(marks, many, size, question, fraction):
    """That no table even up to the size has a mean above the fraction, or that some table has."""
    check_asked(marks, many, size, question)
    check_fraction(fraction)
    mean, shares, polynomial = counts_answer(marks, many, size, question)
    if is_above(mean, fraction):
        return (("mean above", marks, many, size, question, fraction), shares)
    return (("mean up to", marks, many, size, question, fraction), polynomial)


def certify_single(marks, many, size, question, fraction):
    """The same for one mark alone."""
    check_asked_single(marks, many, size, question)
    check_fraction(fraction)
    mean, shares, polynomial = single_answer(marks, many, size, question)
    if is_above(mean, fraction):
        return (("single above", marks, many, size, question, fraction), shares)
    return (("single up to", marks, many, size, question, fraction), polynomial)


def certify_rows(marks, keys, size, fraction):
    """That the least sum is at least the fraction, or that it is below it."""
    check_sizes(marks, keys, size)
    check_fraction(fraction)
    least, shares, prices = rows_answer(marks, keys, size)
    if is_above(fraction, least):
        return (("sum up to", marks, keys, size, fraction), shares)
    return (("rows from", marks, keys, size, fraction), prices)


def certify_strength(prime, vectors, count):
    """That the straight table is even up to the count, or that some lot of up to so many vectors has a tie."""
    check_vectors(prime, vectors)
    check_number(count, 0, len(vectors))
    for size in range(1, count + 1):
        told = first_tied_lot(prime, vectors, size)
        if told is not None:
            return (("tied", prime, vectors, count), told)
    return (("strength", prime, vectors, count), ())


def certify_collision(marks, table):
    """What the worst collision is."""
    check_spread_table(marks, table)
    return (("worst collision", marks, table, worst_collision(marks, table)), ())


def certify_off(marks, table, size, fraction):
    """That no source with no chance above 1 / size has an off above the fraction, or that some source has."""
    check_table(marks, table)
    check_number(size, 1, len(table[0]))
    check_fraction(fraction)
    most, lot = worst_flat(marks, table, size)
    if is_above(most, fraction):
        return (("off above", marks, table, size, fraction), flat_source(len(table[0]), lot))
    return (("off up to", marks, table, size, fraction), ())


def certify_forging(marks, table, lot, fraction):
    """That the forging chance behind the lot is up to the fraction, or that it is above."""
    check_seen_lot(marks, table, lot)
    check_fraction(fraction)
    if is_above(forging_chance(marks, table, lot), fraction):
        return (("forged above", marks, table, lot, fraction), best_forgery(marks, table, lot))
    return (("forged up to", marks, table, lot, fraction), ())


def certify_fair(orders, size):
    """That the orders are fair on all lots of up to so many keys, or that they are not."""
    if slant(orders, size) == (0, 1):
        return (("fair", orders, size), ())
    return (("unfair", orders, size), slant_pair(orders, size))


def certify_apart(marks, table, size):
    """That each lot of so many keys is told apart by some row, or that some lot is not."""
    told = blind_lot(marks, table, size)
    if told is not None:
        return (("not apart", marks, table, size), told)
    rows = [rows_apart(table, lot)[0] for lot in combinations(range(len(table[0])), size)]
    return (("apart", marks, table, size), tuple(rows))


def certify_framing(marks, table, size):
    """That no key is framed by a lot of so many, or that some key is."""
    told = framed(marks, table, size)
    if told is None:
        return (("unframed", marks, table, size), ())
    return (("framed", marks, table, size), told)


def check_fraction(fraction):
    """Raises what is told of an argument that is no fraction."""
    if not is_fraction(fraction):
        raise InvalidFraction(fraction)
