"""Arguments of certificates, of which both claims come, and values that are bent at one place."""

from itertools import permutations, product

from tests.samples import BIT, LINES, ODD, TRIPLED, mixed_table, questions, units, with_sum

ALONE = ((0, 1), (0, 1), (0, 1), (1, 1))
CROWDED = ((1, 1), (0, 1), (0, 1), (1, 1))
SQUARE = ((0, 0), (0, 1), (1, 0), (1, 1))
FIGURES = ((0, 0, 1, 1), (0, 1, 0, 1))
TURNS = ((0, 1, 2), (1, 2, 0), (2, 0, 1))
ALL_OF_3 = tuple(permutations(range(3)))
PATTERNS = tuple(product(range(2), repeat=3))

# For each function the words of its claims, and arguments with the word that is so of them.
CALLS = {
    "certify_even": (
        ("even", (2, TRIPLED, 0)), ("even", (2, TRIPLED, 2)), ("even", (3, LINES, 1)), ("even", (2, BIT, 1)),
        ("even", (2, TRIPLED + ODD, 3)), ("even", (3, with_sum(3, 2), 2)),
        ("uneven", (2, TRIPLED, 3)), ("uneven", (3, LINES, 2)), ("uneven", (5, BIT, 1)),
        ("uneven", (4, mixed_table(4, 3, 5, 2), 2)), ("uneven", (2, ((1,),), 1)),
    ),
    "certify_lean": (
        ("lean", (2, TRIPLED, ())), ("lean", (2, TRIPLED, (0, 1, 2))), ("lean", (3, LINES, (0, 1))),
        ("lean", (4, mixed_table(4, 3, 5, 2), (0, 2))), ("lean", (5, BIT, (0,))),
    ),
    "certify_mean": (
        ("mean up to", (2, 3, 2, ALONE, (1, 4))), ("mean above", (2, 3, 2, ALONE, (1, 5))),
        ("mean up to", (2, 3, 3, ALONE, (1, 2))), ("mean above", (2, 3, 0, ALONE, (-1, 2))),
        ("mean up to", (2, 3, 1, CROWDED, (1, 1))), ("mean above", (3, 2, 1, questions(6)[0], (1, 3))),
        ("mean up to", (3, 2, 1, questions(6)[0], (30, 1))), ("mean above", (2, 1, 0, questions(2)[0], (-300, 7))),
        ("mean up to", (5, 2, 2, questions(15)[1], (1, 1))), ("mean above", (4, 2, 1, questions(10)[1], (-1, 10))),
    ),
    "certify_single": (
        ("single up to", (10, 4, 1, ALONE + ((1, 1),), (2, 15))), ("single above", (2, 3, 2, ALONE, (1, 5))),
        ("single up to", (60, 3, 3, ALONE, (1, 9))), ("single above", (7, 2, 0, questions(3)[0], (-60, 1))),
        ("single up to", (2, 6, 2, questions(7)[0], (60, 1))), ("single above", (3, 5, 2, questions(6)[0], (-60, 1))),
    ),
    "certify_rows": (
        ("rows from", (2, 3, 2, (4, 1))), ("rows from", (2, 3, 2, (7, 2))), ("sum up to", (2, 3, 2, (9, 2))),
        ("rows from", (5, 1, 0, (-3, 1))), ("sum up to", (2, 6, 4, (27, 1))), ("rows from", (2, 6, 4, (80, 3))),
        ("sum up to", (3, 4, 1, (4, 1))), ("rows from", (4, 2, 2, (0, 1))),
    ),
    "certify_strength": (
        ("strength", (2, SQUARE, 3)), ("tied", (2, SQUARE, 4)), ("strength", (3, ((1,), (1,)), 1)),
        ("tied", (3, ((1,), (1,)), 2)), ("strength", (5, units(3), 3)), ("strength", (2, ((),), 1)),
        ("tied", (5, ((0,), (1,), (2,)), 3)), ("strength", (3, ((), ()), 0)), ("tied", (3, ((), ()), 2)),
    ),
    "certify_collision": (
        ("worst collision", (2, TRIPLED)), ("worst collision", (2, ((0, 1),))), ("worst collision", (3, LINES)),
        ("worst collision", (5, mixed_table(5, 3, 7, 2))),
    ),
    "certify_off": (
        ("off up to", (2, TRIPLED, 2, (1, 4))), ("off above", (2, TRIPLED, 2, (1, 5))),
        ("off up to", (3, LINES, 2, (7, 10))), ("off above", (3, LINES, 1, (0, 1))),
        ("off above", (2, BIT, 1, (-1, 9))), ("off above", (4, mixed_table(4, 3, 5, 2), 2, (1, 10))),
        ("off up to", (2, BIT, 1, (1, 2))),
    ),
    "certify_forging": (
        ("forged up to", (2, TRIPLED, (0,), (1, 2))), ("forged above", (2, TRIPLED, (0,), (1, 3))),
        ("forged above", (2, TRIPLED, (0, 1), (99, 100))), ("forged up to", (3, LINES, (1,), (1, 1))),
        ("forged above", (4, mixed_table(4, 3, 5, 2), (1,), (1, 10))), ("forged above", (2, BIT, (), (-1, 1))),
        ("forged above", (3, mixed_table(3, 3, 4, 2), (), (1, 10))),
    ),
    "certify_fair": (
        ("fair", (TURNS, 1)), ("unfair", (TURNS, 2)), ("unfair", (TURNS, 3)), ("fair", (ALL_OF_3, 3)),
        ("fair", (((0,),), 1)), ("unfair", (((1, 0),), 2)), ("fair", (((1, 0), (0, 1)), 2)),
        ("unfair", (((0, 1, 2, 3), (3, 2, 1, 0)), 3)), ("fair", (((0, 1, 2, 3), (3, 2, 1, 0)), 2)),
    ),
    "certify_apart": (
        ("apart", (2, FIGURES, 2)), ("not apart", (2, TRIPLED, 3)), ("not apart", (2, FIGURES, 3)),
        ("apart", (5, mixed_table(5, 3, 9, 2), 2)), ("apart", (2, ((0, 0),), 1)), ("not apart", (2, ((0, 0, 1),), 2)),
        ("apart", (3, ((0, 1, 2),), 3)),
    ),
    "certify_framing": (
        ("unframed", (2, FIGURES, 1)), ("framed", (2, FIGURES, 2)), ("unframed", (2, PATTERNS, 2)),
        ("framed", (2, ((0, 0, 1),), 1)), ("unframed", (3, ((0, 1, 2),), 2)),
        ("framed", (3, mixed_table(3, 4, 2, 3), 2)),
    ),
}

# Words of claims that exclude one another if their parts are alike.
OPPOSITE = (
    ("even", "uneven"), ("mean up to", "mean above"), ("single up to", "single above"), ("strength", "tied"),
    ("off up to", "off above"), ("forged up to", "forged above"), ("fair", "unfair"), ("apart", "not apart"),
    ("unframed", "framed"),
)


def bent_numbers(value):
    told = [value + 1, value - 1, -value, value * 2, None, str(value), (value,), [value], 10 ** 30, -10 ** 30, ()]
    return told + ([bool(value)] if value in (0, 1) else [])


def bent_texts(value):
    return ["", value.upper(), value + " ", value[:-1], value.encode("ascii"), None, 0, (value,), [value], "claim"]


def bent_rows(value):
    """A tuple as another kind of value, with elements put in, left out, exchanged."""
    told = [list(value), (value,), None, True, 0, "", {}, dict(enumerate(value)), value * 2, value[::-1]]
    if value:
        told += [value[:-1], value[1:], value + value[-1:], value[:1] + value, value + ((),), value + (0,), ()]
        told += [value[1:] + value[:1], value[:-1] + ((),)]
    else:
        told += [(0,), ((),), (None,)]
    if len(value) == 2 and [type(part) for part in value] == [int, int]:
        told += [(value[0] * 2, value[1] * 2), (-value[0], -value[1]), (value[0], 0), (value[0] * 3, value[1] * 3)]
    told += [value[:at] + (value[at + 1], value[at]) + value[at + 2:] for at in range(len(value) - 1)]
    return told + [value[:at] + value[at + 1:] for at in range(1, len(value) - 1)]


def bent(value):
    """The value bent at each one of its places; equal values of the same kinds may be among them."""
    if type(value) is str:
        return bent_texts(value)
    if type(value) is int:
        return bent_numbers(value)
    if type(value) is not tuple:
        return [None]
    told = bent_rows(value)
    for at, part in enumerate(value):
        told += [value[:at] + (one,) + value[at + 1:] for one in bent(part)]
    return told


def some(values, most):
    """Up to so many of the values, from all over them."""
    step = len(values) // most + 1
    return values[::step]
