"""What the checker accepts, worked out straight from the words of the document, without the package's own means."""

from fractions import Fraction
from functools import cache
from itertools import combinations, product
from math import comb, gcd

from tests import by_hand
from tests.by_hand import at, lots, number, pair


def is_number(value, least, most):
    return type(value) is int and least <= value <= most


def is_row_of(value, length):
    return type(value) is tuple and len(value) == length


def is_marks_row(marks, length, value):
    return is_row_of(value, length) and all(is_number(mark, 0, marks - 1) for mark in value)


def is_fraction(value):
    if not is_row_of(value, 2) or [type(part) for part in value] != [int, int]:
        return False
    return value[1] > 0 and gcd(*value) == 1


def are_fractions(value, length):
    return is_row_of(value, length) and all(is_fraction(one) for one in value)


def is_lot(keys, value):
    if type(value) is not tuple or not all(is_number(key, 0, keys - 1) for key in value):
        return False
    return list(value) == sorted(set(value))


def are_rows(marks, value, least, longest, most):
    if type(value) is not tuple or not 1 <= len(value) <= most:
        return False
    if type(value[0]) is not tuple or not least <= len(value[0]) <= longest:
        return False
    return all(is_marks_row(marks, len(value[0]), row) for row in value)


def is_table(marks, value):
    return is_number(marks, 2, 5) and are_rows(marks, value, 1, 8, 128)


def are_orders(value):
    if type(value) is not tuple or not 1 <= len(value) <= 120 or type(value[0]) is not tuple:
        return False
    keys = len(value[0])
    right = all(is_row_of(order, keys) and all(is_number(key, 0, keys - 1) for key in order) for order in value)
    return 1 <= keys <= 6 and right and all(len(set(order)) == keys for order in value)


def forging(marks, table, lot):
    further = [key for key in range(len(table[0])) if key not in lot]
    total = 0
    for pattern in set(at(row, lot) for row in table):
        rows = [row for row in table if at(row, lot) == pattern]
        total += max(len([row for row in rows if row[key] == mark]) for key in further for mark in range(marks))
    return Fraction(total, len(table))


def off(marks, table, chances):
    total = Fraction(0)
    for row in table:
        for mark in range(marks):
            total += abs(sum([c for c, one in zip(chances, row) if one == mark], Fraction(0)) - Fraction(1, marks))
    return total / 2 / len(table)


def worst_off(marks, table, size):
    keys = len(table[0])
    flat = [[Fraction(int(key in lot), size) for key in range(keys)] for lot in lots(keys, size)]
    return max(off(marks, table, chances) for chances in flat)


def first_key(order, lot):
    return next(key for key in order if key in lot)


def told_likeness(orders, lot, other):
    return Fraction(len([order for order in orders if first_key(order, lot) == first_key(order, other)]), len(orders))


def likeness(lot, other):
    return Fraction(len(set(lot) & set(other)), len(set(lot) | set(other)))


def is_fair_on(orders, lot):
    first = [first_key(order, lot) for order in orders]
    return len(set(first.count(key) for key in lot)) == 1


def is_apart(row, lot):
    return len(set(at(row, lot))) == len(lot)


def is_framed(table, key, lot):
    return all(row[key] in at(row, lot) for row in table)


def is_tie(prime, vectors, lot, tie):
    if not is_row_of(tie, len(lot)) or not all(is_number(one, 1, prime - 1) for one in tie):
        return False
    longer = [(*vectors[key], 1) for key in lot]
    return all(sum(one * row[place] for one, row in zip(tie, longer)) % prime == 0 for place in range(len(longer[0])))


def is_tied(prime, vectors, lot):
    return any(is_tie(prime, vectors, lot, tie) for tie in product(range(1, prime), repeat=len(lot)))


def even(parts, paper):
    marks, table, size = parts
    if not is_table(marks, table) or not is_number(size, 0, len(table[0])):
        return False
    return paper == () and all(by_hand.is_even(marks, table, lot) for lot in lots(len(table[0]), size))


def uneven(parts, paper):
    marks, table, size = parts
    if not is_table(marks, table) or not is_number(size, 0, len(table[0])) or not is_row_of(paper, 3):
        return False
    lot, one, two = paper
    if not is_lot(len(table[0]), lot) or len(lot) != size:
        return False
    if not is_marks_row(marks, size, one) or not is_marks_row(marks, size, two):
        return False
    return by_hand.count(table, lot, one) != by_hand.count(table, lot, two)


def lean(parts, paper):
    marks, table, lot, told = parts
    if not is_table(marks, table) or not is_lot(len(table[0]), lot) or not is_fraction(told):
        return False
    return paper == () and pair(by_hand.lean(marks, table, lot)) == told


@cache
def product_lines(marks, many, size):
    """For each powers the products at all counts, and the even mean."""
    counts = by_hand.all_counts(marks, many)
    return [
        ([by_hand.lots_product(one, powers) for one in counts], by_hand.even_mean(marks, many, powers))
        for powers in by_hand.all_powers(marks, size)
    ]


def single_lines(marks, many, size):
    return [
        ([comb(keys, j) for keys in range(many + 1)], Fraction(comb(many, j), marks ** j)) for j in range(size + 1)
    ]


def mean_lines(parts):
    """The lines of what is asked of counts; None if it is no claim."""
    marks, many, size, question, told = parts
    if not is_number(marks, 2, 5) or not is_number(many, 1, 8) or not is_number(size, 0, many):
        return None
    length = comb(many + marks - 1, many)
    if length > 60 or not are_fractions(question, length) or not is_fraction(told):
        return None
    return product_lines(marks, many, size)


def lines_of_one(parts):
    marks, many, size, question, told = parts
    if not is_number(marks, 2, 60) or not is_number(many, 1, 12) or not is_number(size, 0, min(6, many)):
        return None
    if not are_fractions(question, many + 1) or not is_fraction(told):
        return None
    return single_lines(marks, many, size)


def bounds(lines, parts, paper):
    if lines is None or not are_fractions(paper, len(lines)):
        return False
    question, told = parts[-2:]
    factors = [number(one) for one in paper]
    for place, one in enumerate(question):
        if sum(factor * values[place] for factor, (values, _) in zip(factors, lines)) < number(one):
            return False
    return sum(factor * mean for factor, (_, mean) in zip(factors, lines)) <= number(told)


def reaches(lines, parts, paper):
    if lines is None:
        return False
    question, told = parts[-2:]
    if not are_fractions(paper, len(question)):
        return False
    shares = [number(one) for one in paper]
    if min(shares) < 0 or sum(shares) != 1:
        return False
    if any(sum(share * value for share, value in zip(shares, values)) != mean for values, mean in lines):
        return False
    return sum(share * number(one) for share, one in zip(shares, question)) > number(told)


def are_sizes(parts):
    marks, keys, size, told = parts
    return is_number(marks, 2, 5) and is_number(keys, 1, 12) and is_number(size, 0, keys) and is_fraction(told)


def rows_from(parts, paper):
    marks, keys, size, told = parts
    if not are_sizes(parts) or not are_fractions(paper, keys):
        return False
    prices = [number(one) for one in paper]
    heights = [
        1 + sum(price * by_hand.weight(marks, keys, j, i) for j, price in enumerate(prices, 1))
        for i in range(keys + 1)
    ]
    return all(price <= 0 for price in prices[size:]) and min(heights) >= 0 and heights[0] >= number(told)


def sum_up_to(parts, paper):
    marks, keys, size, told = parts
    if not are_sizes(parts) or not are_fractions(paper, keys + 1):
        return False
    shares = [number(one) for one in paper]
    sums = [
        sum(share * by_hand.weight(marks, keys, j, i) for i, share in enumerate(shares)) for j in range(keys + 1)
    ]
    right = min(shares) >= 0 and shares[0] >= 1 and min(sums) >= 0 and not any(sums[1:size + 1])
    return right and sum(shares) <= number(told)


def are_vectors(prime, vectors, count):
    if not is_number(prime, 2, 5) or prime == 4 or not are_rows(prime, vectors, 0, 6, 8):
        return False
    return is_number(count, 0, len(vectors))


def strength(parts, paper):
    prime, vectors, count = parts
    if not are_vectors(prime, vectors, count) or paper != ():
        return False
    few = [lot for size in range(1, count + 1) for lot in combinations(range(len(vectors)), size)]
    return not any(is_tied(prime, vectors, lot) for lot in few)


def tied(parts, paper):
    prime, vectors, count = parts
    if not are_vectors(prime, vectors, count) or not is_row_of(paper, 2):
        return False
    lot, tie = paper
    return is_lot(len(vectors), lot) and 1 <= len(lot) <= count and is_tie(prime, vectors, lot, tie)


def worst_collision(parts, paper):
    marks, table, told = parts
    if not is_table(marks, table) or len(table[0]) == 1 or not is_fraction(told):
        return False
    most = max(len([row for row in table if row[i] == row[j]]) for i, j in lots(len(table[0]), 2))
    return paper == () and pair(Fraction(most, len(table))) == told


def is_sized(parts, least, most_less):
    marks, table, size = parts[:3]
    return is_table(marks, table) and is_number(size, least, len(table[0]) - most_less)


def off_up_to(parts, paper):
    marks, table, size, told = parts
    if not is_sized(parts, 1, 0) or not is_fraction(told):
        return False
    return paper == () and worst_off(marks, table, size) <= number(told)


def off_above(parts, paper):
    marks, table, size, told = parts
    if not is_sized(parts, 1, 0) or not is_fraction(told) or not are_fractions(paper, len(table[0])):
        return False
    chances = [number(one) for one in paper]
    if min(chances) < 0 or sum(chances) != 1 or max(chances) > Fraction(1, size):
        return False
    return off(marks, table, chances) > number(told)


def is_seen(parts):
    marks, table, lot, told = parts
    right = is_table(marks, table) and is_lot(len(table[0]), lot) and len(lot) < len(table[0])
    return right and is_fraction(told)


def forged_up_to(parts, paper):
    return is_seen(parts) and paper == () and forging(*parts[:3]) <= number(parts[3])


def forged_above(parts, paper):
    marks, table, lot, told = parts
    if not is_seen(parts):
        return False
    patterns = sorted(set(at(row, lot) for row in table))
    if not is_row_of(paper, len(patterns)) or not all(is_row_of(triple, 3) for triple in paper):
        return False
    for pattern, (first, key, mark) in zip(patterns, paper):
        if not is_marks_row(marks, len(lot), first) or first != pattern:
            return False
        if not is_number(key, 0, len(table[0]) - 1) or key in lot or not is_number(mark, 0, marks - 1):
            return False
    met = [row for row in table for pattern, key, mark in paper if at(row, lot) == pattern and row[key] == mark]
    return Fraction(len(met), len(table)) > number(told)


def fair(parts, paper):
    orders, size = parts
    if not are_orders(orders) or not is_number(size, 1, len(orders[0])) or paper != ():
        return False
    return all(is_fair_on(orders, lot) for many in range(1, size + 1) for lot in lots(len(orders[0]), many))


def unfair(parts, paper):
    orders, size = parts
    if not are_orders(orders) or not is_number(size, 1, len(orders[0])) or not is_row_of(paper, 2):
        return False
    if not all(is_lot(len(orders[0]), lot) and lot != () for lot in paper):
        return False
    return len(set(paper[0] + paper[1])) <= size and told_likeness(orders, *paper) != likeness(*paper)


def apart(parts, paper):
    marks, table, size = parts
    if not is_sized(parts, 1, 0):
        return False
    few = lots(len(table[0]), size)
    if not is_row_of(paper, len(few)) or not all(is_number(row, 0, len(table) - 1) for row in paper):
        return False
    return all(is_apart(table[row], lot) for row, lot in zip(paper, few))


def not_apart(parts, paper):
    marks, table, size = parts
    if not is_sized(parts, 1, 0) or not is_lot(len(table[0]), paper) or len(paper) != size:
        return False
    return not any(is_apart(row, paper) for row in table)


def unframed(parts, paper):
    marks, table, size = parts
    if not is_sized(parts, 1, 1) or paper != ():
        return False
    keys = range(len(table[0]))
    return not any(is_framed(table, key, lot) for lot in lots(len(keys), size) for key in keys if key not in lot)


def framed(parts, paper):
    marks, table, size = parts
    if not is_sized(parts, 1, 1) or not is_row_of(paper, 2):
        return False
    key, lot = paper
    keys = len(table[0])
    if not is_number(key, 0, keys - 1) or not is_lot(keys, lot) or len(lot) != size or key in lot:
        return False
    return is_framed(table, key, lot)


# For each word how many parts stand behind it and what is accepted.
WORDS = {
    "even": (3, even), "uneven": (3, uneven), "lean": (4, lean),
    "mean up to": (5, lambda parts, paper: bounds(mean_lines(parts), parts, paper)),
    "mean above": (5, lambda parts, paper: reaches(mean_lines(parts), parts, paper)),
    "single up to": (5, lambda parts, paper: bounds(lines_of_one(parts), parts, paper)),
    "single above": (5, lambda parts, paper: reaches(lines_of_one(parts), parts, paper)),
    "rows from": (4, rows_from), "sum up to": (4, sum_up_to), "strength": (3, strength), "tied": (3, tied),
    "worst collision": (3, worst_collision), "off up to": (4, off_up_to), "off above": (4, off_above),
    "forged up to": (4, forged_up_to), "forged above": (4, forged_above), "fair": (2, fair), "unfair": (2, unfair),
    "apart": (3, apart), "not apart": (3, not_apart), "unframed": (3, unframed), "framed": (3, framed),
}


def accepted(claim, paper):
    if type(claim) is not tuple or claim == () or type(claim[0]) is not str or claim[0] not in WORDS:
        return False
    many, right = WORDS[claim[0]]
    return len(claim) == many + 1 and right(claim[1:], paper)
