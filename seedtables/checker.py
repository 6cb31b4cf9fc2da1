"""The checker: whether a claim is so, told by a paper that anybody can look at."""

from itertools import combinations

from seedtables.apart import framed, rows_apart, some_row_parts, tells_apart
from seedtables.collisions import check_spread_table, worst_collision
from seedtables.common import check_number, check_table, have_sum_1, is_above, is_between, is_filled_tuple, is_fraction
from seedtables.common import is_lot, is_part, is_row, is_tuple_of, over_one_number
from seedtables.counts import check_asked, counts_of, even_mean_of, falling_mean_of, lots_product, tuples_up_to
from seedtables.errors import SeedError
from seedtables.fewest import are_shares_of_unlikeness, check_sizes, price_bound
from seedtables.leans import lean
from seedtables.made import check_vectors, free_strength, is_tie
from seedtables.orders import check_orders, fairness, likeness, shared_keys, told_likeness
from seedtables.seals import forged_share, forging_chance
from seedtables.single import check_asked_single
from seedtables.sources import check_source, off, worst_off
from seedtables.tables import coming_counts, uneven_lot


def accepts(claim, paper):
    """Whether the claim is one for the checker and the paper is one for it, whatever both are."""
    if not is_filled_tuple(claim) or not isinstance(claim[0], str):
        return False
    word, *parts = claim
    if (word, len(parts)) not in CHECKS:
        return False
    check = CHECKS[(word, len(parts))]
    try:
        return check(*parts, paper)
    except SeedError:
        # A part that is not right where the interface tells of it makes no claim, or no paper.
        return False


def is_nothing(paper):
    """Whether the paper is what stands where no paper is told."""
    return is_tuple_of(0, paper)


def is_lot_of(table, size, value):
    """Whether a value is a lot of so many of the table's keys."""
    return is_lot(len(table[0]), value) and len(value) == size


def shows_even(marks, table, size, paper):
    """Whether the table is even up to the size."""
    return is_nothing(paper) and uneven_lot(marks, table, size) is None


def shows_uneven(marks, table, size, paper):
    """Whether the paper is a lot of so many keys and two patterns on it of unlike counts."""
    check_table(marks, table)
    check_number(size, 0, len(table[0]))
    if not is_tuple_of(3, paper):
        return False
    lot, pattern, other = paper
    if not is_lot_of(table, size, lot) or not is_row(marks, size, pattern) or not is_row(marks, size, other):
        return False
    counts = coming_counts(table, lot)
    return counts.get(pattern, 0) != counts.get(other, 0)


def shows_lean(marks, table, lot, number, paper):
    """Whether this is the lean of the lot."""
    return is_nothing(paper) and is_fraction(number) and lean(marks, table, lot) == number


def shows_mean_up_to(marks, many, size, question, most, paper):
    """Whether the paper is a polynomial that bounds the question, with an even mean up to most."""
    check_asked(marks, many, size, question)
    means = even_means(marks, many, tuples_up_to(marks - 1, size))
    return is_fraction(most) and bounds(means, counts_of(marks, many), question, most, paper)


def shows_mean_above(marks, many, size, question, least, paper):
    """Whether the paper is shares even up to the size, with a mean of the question above the least."""
    check_asked(marks, many, size, question)
    means = even_means(marks, many, tuples_up_to(marks - 1, size))
    return is_fraction(least) and reaches(means, counts_of(marks, many), question, least, paper)


def shows_single_up_to(marks, many, size, question, most, paper):
    """Whether the paper is a polynomial that bounds the question of one mark, with an even mean up to most."""
    check_asked_single(marks, many, size, question)
    means = even_means(marks, many, tuples_up_to(1, size))
    return is_fraction(most) and bounds(means, tuples_up_to(1, many), question, most, paper)


def shows_single_above(marks, many, size, question, least, paper):
    """Whether the paper is shares of one mark even up to the size, with a mean of the question above the least."""
    check_asked_single(marks, many, size, question)
    means = even_means(marks, many, tuples_up_to(1, size))
    return is_fraction(least) and reaches(means, tuples_up_to(1, many), question, least, paper)


def even_means(marks, many, told):
    """Pairs of powers and their even mean, as a list."""
    return [(powers, even_mean_of(marks, many, powers)) for powers in told]


def bounds(means, points, question, most, paper):
    """Whether the paper is a polynomial at each point at least the question, with an even mean up to most."""
    if not is_tuple_of(len(means), paper) or not all([is_fraction(factor) for factor in paper]):
        return False
    factors, whole = over_one_number(paper)
    for point, (above, below) in zip(points, question):
        terms = [factor * lots_product(point, powers) for factor, (powers, _) in zip(factors, means)]
        if sum(terms) * below < above * whole:
            return False
    parts, number = over_one_number([mean for _, mean in means])
    even = sum([factor * part for factor, part in zip(factors, parts)])
    return not is_above((even, whole * number), most)


def reaches(means, points, question, least, paper):
    """Whether the paper is shares of the points with these means, and a mean of the question above the least."""
    if not is_tuple_of(len(points), paper) or not all([is_part(share) for share in paper]) or not have_sum_1(paper):
        return False
    parts, whole = over_one_number(paper)
    for powers, mean in means:
        if falling_mean_of(points, parts, whole, powers) != mean:
            return False
    values, number = over_one_number(question)
    told = sum([part * value for part, value in zip(parts, values)])
    return is_above((told, whole * number), least)


def shows_rows_from(marks, keys, size, least, paper):
    """Whether the paper is row prices whose bound is at least this."""
    return is_fraction(least) and not is_above(least, price_bound(marks, keys, size, paper))


def shows_sum_up_to(marks, keys, size, most, paper):
    """Whether the paper is shares of unlikeness whose sum is up to most."""
    check_sizes(marks, keys, size)
    if not is_fraction(most) or not are_shares_of_unlikeness(marks, keys, size, paper):
        return False
    parts, whole = over_one_number(paper)
    return not is_above((sum(parts), whole), most)


def shows_strength(prime, vectors, count, paper):
    """Whether the straight table is even up to the count."""
    check_vectors(prime, vectors)
    check_number(count, 0, len(vectors))
    return is_nothing(paper) and free_strength(prime, vectors) >= count


def shows_tied(prime, vectors, count, paper):
    """Whether the paper is a lot of up to so many vectors, but (), and a tie of it."""
    check_vectors(prime, vectors)
    check_number(count, 0, len(vectors))
    if not is_tuple_of(2, paper):
        return False
    lot, tie = paper
    return is_lot(len(vectors), lot) and 1 <= len(lot) <= count and is_tie(prime, vectors, lot, tie)


def shows_worst_collision(marks, table, number, paper):
    """Whether this is the worst collision."""
    check_spread_table(marks, table)
    return is_nothing(paper) and is_fraction(number) and worst_collision(marks, table) == number


def shows_off_up_to(marks, table, size, most, paper):
    """Whether no source with no chance above 1 / size has an off above most."""
    return is_nothing(paper) and is_fraction(most) and not is_above(worst_off(marks, table, size), most)


def shows_off_above(marks, table, size, least, paper):
    """Whether the paper is a source with no chance above 1 / size, with an off above the least."""
    check_table(marks, table)
    check_number(size, 1, len(table[0]))
    check_source(table, paper)
    few = all([not is_above(chance, (1, size)) for chance in paper])
    return few and is_fraction(least) and is_above(off(marks, table, paper), least)


def shows_forged_up_to(marks, table, lot, most, paper):
    """Whether the forging chance behind the lot is up to most."""
    return is_nothing(paper) and is_fraction(most) and not is_above(forging_chance(marks, table, lot), most)


def shows_forged_above(marks, table, lot, least, paper):
    """Whether the paper is a forgery for the lot with a share above the least."""
    return is_fraction(least) and is_above(forged_share(marks, table, lot, paper), least)


def shows_fair(orders, size, paper):
    """Whether the orders are fair on all lots of up to so many keys."""
    check_orders(orders)
    check_number(size, 1, len(orders[0]))
    return is_nothing(paper) and fairness(orders) >= size


def shows_unfair(orders, size, paper):
    """Whether the paper is two lots with up to so many keys together, told to be as like as they are not."""
    check_orders(orders)
    check_number(size, 1, len(orders[0]))
    if not is_tuple_of(2, paper):
        return False
    lot, other = paper
    is_unlike = told_likeness(orders, lot, other) != likeness(orders, lot, other)
    _, together = shared_keys(lot, other)
    return is_unlike and len(together) <= size


def shows_apart(marks, table, size, paper):
    """Whether the paper is the index of a row for each lot of so many keys that tells it apart."""
    check_table(marks, table)
    check_number(size, 1, len(table[0]))
    lots = list(combinations(range(len(table[0])), size))
    if not is_tuple_of(len(lots), paper):
        return False
    for lot, index in zip(lots, paper):
        if not is_between(index, 0, len(table) - 1) or not tells_apart(table[index], lot):
            return False
    return True


def shows_not_apart(marks, table, size, paper):
    """Whether the paper is a lot of so many keys that no row tells apart."""
    check_table(marks, table)
    check_number(size, 1, len(table[0]))
    return is_lot_of(table, size, paper) and rows_apart(table, paper) == []


def shows_unframed(marks, table, size, paper):
    """Whether no key is framed by a lot of so many."""
    return is_nothing(paper) and framed(marks, table, size) is None


def shows_framed(marks, table, size, paper):
    """Whether the paper is a pair of a key and a lot of so many keys by which it is framed."""
    check_table(marks, table)
    check_number(size, 1, len(table[0]) - 1)
    if not is_tuple_of(2, paper):
        return False
    key, lot = paper
    if not is_between(key, 0, len(table[0]) - 1) or not is_lot_of(table, size, lot) or key in lot:
        return False
    return not some_row_parts(table, (key,), lot)


# By the word of a claim and how many parts stand behind it.
CHECKS = {
    ("even", 3): shows_even,
    ("uneven", 3): shows_uneven,
    ("lean", 4): shows_lean,
    ("mean up to", 5): shows_mean_up_to,
    ("mean above", 5): shows_mean_above,
    ("single up to", 5): shows_single_up_to,
    ("single above", 5): shows_single_above,
    ("rows from", 4): shows_rows_from,
    ("sum up to", 4): shows_sum_up_to,
    ("strength", 3): shows_strength,
    ("tied", 3): shows_tied,
    ("worst collision", 3): shows_worst_collision,
    ("off up to", 4): shows_off_up_to,
    ("off above", 4): shows_off_above,
    ("forged up to", 4): shows_forged_up_to,
    ("forged above", 4): shows_forged_above,
    ("fair", 2): shows_fair,
    ("unfair", 2): shows_unfair,
    ("apart", 3): shows_apart,
    ("not apart", 3): shows_not_apart,
    ("unframed", 3): shows_unframed,
    ("framed", 3): shows_framed,
}
