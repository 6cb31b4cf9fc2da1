"""Orders of keys: which key of a lot is the first one, on which lots this is fair, and what likeness it tells."""

from itertools import combinations
from math import lcm

from seedtables.common import check_number, fraction_of, is_between, is_filled_tuple, is_lot
from seedtables.errors import InvalidKey, InvalidLot, InvalidOrders

MOST_ORDERED_KEYS = 6
MOST_ORDERS = 120


def are_orders(value):
    """Whether a value, whatever it is, is orders."""
    return is_filled_tuple(value) and first_wrong_order(value) is None


def first_shares(orders, lot):
    """For each key of the lot, in order, the share of orders in which it is the first one."""
    check_orders(orders)
    check_filled_lot(orders, lot)
    return tuple([fraction_of(many, len(orders)) for many in first_counts(orders, lot)])


def is_fair_on(orders, lot):
    """Whether each key of the lot is the first one in equally many orders."""
    check_orders(orders)
    check_filled_lot(orders, lot)
    return comes_fairly(orders, lot)


def fairness(orders):
    """The greatest number of keys up to which the orders are fair on all lots."""
    check_orders(orders)
    lot = first_unfair_lot(orders)
    return len(orders[0]) if lot is None else len(lot) - 1


def unfair_lot(orders):
    """A lot on which the orders are not fair, None if there is none."""
    check_orders(orders)
    return first_unfair_lot(orders)


def ahead_share(orders, lot, key):
    """The share of orders in which just the lot's keys stand ahead of the key."""
    check_orders(orders)
    if not is_lot(len(orders[0]), lot):
        raise InvalidLot(lot)
    if not is_between(key, 0, len(orders[0]) - 1) or key in lot:
        raise InvalidKey(key)
    there = [order for order in orders if tuple(sorted(order[:order.index(key)])) == lot]
    return fraction_of(len(there), len(orders))


def made_orders(keys):
    """As many orders as the least common multiple of the numbers up to so many keys, fair on all lots."""
    check_number(keys, 1, MOST_ORDERED_KEYS)
    begun = {(): [()] * least_multiple(keys)}
    for _ in range(keys):
        begun = moved_on(keys, begun)
    return tuple(begun[tuple(range(keys))])


def likeness(orders, lot, other):
    """How many keys two lots have in common, over how many both have together."""
    check_two_lots(orders, lot, other)
    common, together = shared_keys(lot, other)
    return fraction_of(len(common), len(together))


def told_likeness(orders, lot, other):
    """The share of orders in which two lots have the same first key."""
    check_two_lots(orders, lot, other)
    like = [order for order in orders if first_key(order, lot) == first_key(order, other)]
    return fraction_of(len(like), len(orders))


def slant(orders, size):
    """How far, at most, told likenesses of lots with up to so many keys together are off, over the likeness."""
    check_orders(orders)
    check_number(size, 1, len(orders[0]))
    return fraction_of(most_slanting(orders, size)[0], len(orders))


def slant_pair(orders, size):
    """Two lots with up to so many keys together whose told likeness is off by just the slant times the likeness."""
    check_orders(orders)
    check_number(size, 1, len(orders[0]))
    _, lot, key = most_slanting(orders, size)
    return (lot, (key,))


def check_orders(orders):
    """Raises what is told of an argument that is no orders."""
    if not is_filled_tuple(orders):
        raise InvalidOrders(None)
    index = first_wrong_order(orders)
    if index is not None:
        raise InvalidOrders(index)


def check_filled_lot(orders, lot):
    """Raises what is told of an argument that is no lot of the orders' keys, or is ()."""
    if not is_lot(len(orders[0]), lot) or len(lot) == 0:
        raise InvalidLot(lot)


def check_two_lots(orders, lot, other):
    """Raises what is told of orders, then what is told of two arguments that are no lots, or are ()."""
    check_orders(orders)
    check_filled_lot(orders, lot)
    check_filled_lot(orders, other)


def first_wrong_order(rows):
    """The index of the first row that makes a tuple other than () no orders, None for orders."""
    first = rows[0]
    if not isinstance(first, tuple) or not 1 <= len(first) <= MOST_ORDERED_KEYS:
        return 0
    for index, row in enumerate(rows):
        if index == MOST_ORDERS or not is_order_of(len(first), row):
            return index
    return None


def is_order_of(keys, value):
    """Whether a value is a tuple of so many keys, each once."""
    if not isinstance(value, tuple) or not all([is_between(key, 0, keys - 1) for key in value]):
        return False
    return sorted(value) == list(range(keys))


def lots_up_to(keys, size):
    """All lots of 1 up to so many of these keys, those of fewer keys ahead, as a list."""
    return [lot for many in range(1, size + 1) for lot in combinations(range(keys), many)]


def first_key(order, lot):
    """The key of the lot that stands ahead of its others."""
    return [key for key in order if key in lot][0]


def first_counts(orders, lot):
    """In how many orders each key of the lot is the first one, as a list."""
    first = [first_key(order, lot) for order in orders]
    return [first.count(key) for key in lot]


def comes_fairly(orders, lot):
    """Whether the orders are fair on the lot, for arguments that are right."""
    counts = first_counts(orders, lot)
    return min(counts) == max(counts)


def first_unfair_lot(orders):
    """A lot of as few keys as can be on which the orders are not fair, None if there is none."""
    keys = len(orders[0])
    for lot in lots_up_to(keys, keys):
        if not comes_fairly(orders, lot):
            return lot
    return None


def least_multiple(keys):
    """The least common multiple of the numbers from 1 up to so many."""
    number = 1
    for many in range(1, keys + 1):
        number = lcm(number, many)
    return number


def moved_on(keys, begun):
    """The begun orders with one key more each; before and behind they are told by the lots of their keys.

    Equally many of those with one lot go on with each further key: then just this lot stands ahead of each of these
    keys equally often, which makes the orders fair, and each lot comes as often as each other one of as many keys.
    """
    further = {}
    for lot, ways in begun.items():
        rest = [key for key in range(keys) if key not in lot]
        many = len(ways) // len(rest)
        for place, key in enumerate(rest):
            longer = tuple(sorted([*lot, key]))
            moved = [(*way, key) for way in ways[place * many:(place + 1) * many]]
            further[longer] = further.get(longer, []) + moved
    return further


def shared_keys(lot, other):
    """The keys that two lots have in common, and those that both have together, as lists."""
    common = [key for key in lot if key in other]
    return common, [*lot, *[key for key in other if key not in lot]]


def most_slanting(orders, size):
    """The slant times the number of orders, and a lot and a key of it that have this slant."""
    most, found, first = 0, (0,), 0
    for lot in lots_up_to(len(orders[0]), size):
        for key, many in zip(lot, first_counts(orders, lot)):
            far = abs(len(lot) * many - len(orders))
            if far > most:
                most, found, first = far, lot, key
    return most, found, first
