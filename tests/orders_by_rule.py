"""Orders for the tests: free ones, with their reverse, all turns, all orders."""

from itertools import permutations


def free_orders(keys, many, start):
    """Orders that follow one another without a plain rule of keys."""
    state, told = start, []
    for _ in range(many):
        rest, order = list(range(keys)), []
        while rest:
            state = (state * 1103515245 + 12345) % 2 ** 31
            order.append(rest.pop((state >> 16) % len(rest)))
        told.append(tuple(order))
    return tuple(told)


def with_reverse(orders):
    return orders + tuple(order[::-1] for order in orders)


def turns(order):
    return tuple(order[at:] + order[:at] for at in range(len(order)))


FREE = tuple(
    free_orders(keys, many, 11 * keys + many)
    for keys in range(1, 7) for many in (1, 2, 3, 6, 12, 60)
) + (free_orders(6, 120, 1), free_orders(5, 120, 2))
REVERSED = tuple(with_reverse(free_orders(keys, many, keys)) for keys in range(1, 7) for many in (1, 3, 7))
TURNED = tuple(turns(tuple(range(keys))) for keys in range(1, 7)) + (turns((2, 0, 1, 3)),)
ALL = tuple(tuple(permutations(range(keys))) for keys in range(1, 6))
AGAIN = (ALL[2] * 20, ALL[3] * 5, TURNED[2] * 40, ((0,),) * 120, ((5, 4, 3, 2, 1, 0),) * 120)
# Two that are fair on all lots of up to two keys, and the even ones of the orders of four keys, fair on all lots.
PARTLY = (
    with_reverse(turns((0, 1, 2, 3))), with_reverse(turns((0, 1, 2, 3, 4, 5))),
    tuple(order for order in ALL[3] if sum(order[i] > order[j] for i in range(4) for j in range(i, 4)) % 2 == 0),
)
ORDERS = FREE + REVERSED + TURNED + ALL + AGAIN + PARTLY
