"""Offs and like chances against counting by hand, and what holds for all sources without great chances."""

import unittest
from fractions import Fraction
from itertools import combinations, product

from seedtables.collisions import collision, worst_collision
from seedtables.made import polynomial_table
from seedtables.sources import least_size, like_chance, off, off_bound, worst_lot, worst_off
from seedtables.tables import strength
from tests.by_hand import number, pair
from tests.samples import BIT, GREAT, LINES, MIXED, STRONG, TRIPLED, all_tables, mixed_table, shares_by_rule

STRONG_PAIRS = tuple((marks, table) for marks, table, _ in STRONG)
TABLES = MIXED + STRONG_PAIRS
SMALL = tuple((marks, table) for marks, table in TABLES if len(table) <= 32)


def off_of(marks, table, chances):
    total = Fraction(0)
    for row in table:
        for mark in range(marks):
            have = sum([chance for chance, one in zip(chances, row, strict=True) if one == mark], Fraction(0))
            total += abs(have - Fraction(1, marks))
    return total / 2 / len(table)


def like(table, chances):
    """The like chance, over all pairs of keys."""
    total = Fraction(0)
    for one, two in product(range(len(chances)), repeat=2):
        rows = len([row for row in table if row[one] == row[two]])
        total += chances[one] * chances[two] * Fraction(rows, len(table))
    return total


def flat(keys, lot):
    return [Fraction(int(key in lot), len(lot)) for key in range(keys)]


def passed(chances):
    return tuple(pair(chance) for chance in chances)


def sources(keys):
    """Sources: flat ones, of one key, and by a rule."""
    told = [flat(keys, tuple(range(size))) for size in range(1, keys + 1)]
    told += [flat(keys, (key,)) for key in range(keys)]
    told += [[number(one) for one in shares_by_rule(keys, start)] for start in range(7)]
    return told


def bounded_sources(keys, size):
    """Sources with no chance above 1 / size: such by a rule, with as much as may be dealt to the first keys."""
    told = []
    for start in range(6):
        parts = [(key * key * 5 + key * start + start) % 9 + 1 for key in range(keys)]
        rest, chances = Fraction(1), []
        for at, part in enumerate(parts):
            least = max(Fraction(0), rest - Fraction(keys - 1 - at, size))
            most = min(Fraction(1, size), rest)
            chances.append(least + (most - least) * Fraction(part, 9))
            rest -= chances[-1]
        assert rest == 0 and max(chances) <= Fraction(1, size)
        told.append(chances[start:] + chances[:start])
    return told


class Off(unittest.TestCase):
    def test_counted_by_hand(self):
        for marks, table in TABLES:
            for chances in sources(len(table[0])):
                self.assertEqual(off(marks, table, passed(chances)), pair(off_of(marks, table, chances)))

    def test_flat_sources_of_small_tables(self):
        for marks, table in SMALL:
            keys = len(table[0])
            for size in range(1, keys + 1):
                for lot in list(combinations(range(keys), size))[:12]:
                    told = off(marks, table, passed(flat(keys, lot)))
                    self.assertEqual(told, pair(off_of(marks, table, flat(keys, lot))))

    def test_great_tables(self):
        for marks, table in GREAT:
            for chances in sources(8)[6:11]:
                self.assertEqual(off(marks, table, passed(chances)), pair(off_of(marks, table, chances)))
                self.assertEqual(like_chance(marks, table, passed(chances)), pair(like(table, chances)))

    def test_marks_that_do_not_come_are_counted(self):
        self.assertEqual(off(5, ((0,),), ((1, 1),)), (4, 5))
        self.assertEqual(off(2, ((0, 0),), ((1, 2), (1, 2))), (1, 2))
        self.assertEqual(off(4, ((0, 1),), ((1, 2), (1, 2))), (1, 2))
        self.assertEqual(off(5, ((0, 1, 2, 3, 4),), ((1, 5),) * 5), (0, 1))

    def test_off_of_a_mean_is_at_most_the_mean_of_the_offs(self):
        for marks, table in SMALL:
            told = sources(len(table[0]))
            for one, two in zip(told, told[1:]):
                middle = [(a + b * 2) / 3 for a, b in zip(one, two)]
                mean = (number(off(marks, table, passed(one))) + number(off(marks, table, passed(two))) * 2) / 3
                self.assertLessEqual(number(off(marks, table, passed(middle))), mean)

    def test_great_numbers(self):
        chances = [Fraction(1, 10 ** 399), 1 - Fraction(1, 10 ** 399) - Fraction(3, 7 ** 400), Fraction(3, 7 ** 400)]
        self.assertEqual(off(2, TRIPLED, passed(chances)), pair(off_of(2, TRIPLED, chances)))
        self.assertEqual(like_chance(2, TRIPLED, passed(chances)), pair(like(TRIPLED, chances)))


class LikeChance(unittest.TestCase):
    def test_counted_by_hand(self):
        for marks, table in TABLES:
            for chances in sources(len(table[0])):
                self.assertEqual(like_chance(marks, table, passed(chances)), pair(like(table, chances)))

    def test_by_collisions(self):
        for marks, table in SMALL:
            keys = range(len(table[0]))
            for chances in sources(len(table[0]))[-3:]:
                expected = sum(
                    chances[one] * chances[two] * number(collision(marks, table, one, two))
                    for one in keys for two in keys
                )
                self.assertEqual(like_chance(marks, table, passed(chances)), pair(expected))

    def test_one_key(self):
        for marks in (2, 3, 4, 5):
            self.assertEqual(like_chance(marks, BIT, ((1, 1),)), (1, 1))
            self.assertEqual(like_chance(marks, ((0, 1, 1),), ((0, 1), (1, 1), (0, 1))), (1, 1))


class OffBound(unittest.TestCase):
    def test_by_the_like_chance(self):
        for marks, table in TABLES:
            for chances in sources(len(table[0])):
                told = off_bound(marks, table, passed(chances))
                self.assertEqual(told, pair((marks * like(table, chances) - 1) / 4))

    def test_bounds_the_square_of_the_off(self):
        tight = 0
        for marks, table in TABLES:
            for chances in sources(len(table[0])):
                bound = number(off_bound(marks, table, passed(chances)))
                square = number(off(marks, table, passed(chances))) ** 2
                self.assertLessEqual(square, bound)
                tight += square == bound
        self.assertGreater(tight, 20)

    def test_few_collisions(self):
        """If no two keys are alike in more than 1 / v of the rows, size alone bounds the off."""
        seen = 0
        for marks, table in TABLES + ((5, polynomial_table(5, 2, 5)), (3, polynomial_table(3, 2, 3))):
            if number(worst_collision(marks, table)) <= Fraction(1, marks):
                for size in range(1, len(table[0]) + 1):
                    seen += 1
                    bound = Fraction(marks - 1, 4 * size)
                    self.assertLessEqual(number(worst_off(marks, table, size)) ** 2, bound)
                    for chances in bounded_sources(len(table[0]), size):
                        self.assertLessEqual(number(off(marks, table, passed(chances))) ** 2, bound)
        self.assertGreater(seen, 40)


class Worst(unittest.TestCase):
    def flat_offs(self, marks, table, size):
        keys = len(table[0])
        return {lot: off_of(marks, table, flat(keys, lot)) for lot in combinations(range(keys), size)}

    def test_greatest_of_all_flat_sources(self):
        for marks, table in SMALL:
            for size in range(1, len(table[0]) + 1):
                offs = self.flat_offs(marks, table, size)
                self.assertEqual(worst_off(marks, table, size), pair(max(offs.values())))
                lot = worst_lot(marks, table, size)
                self.assertEqual(len(lot), size)
                self.assertEqual(offs[lot], max(offs.values()))

    def test_great_tables(self):
        for marks, table in GREAT:
            for size in (1, 2, 7, 8):
                offs = self.flat_offs(marks, table, size)
                self.assertEqual(worst_off(marks, table, size), pair(max(offs.values())))
                self.assertEqual(offs[worst_lot(marks, table, size)], max(offs.values()))

    def test_holds_for_all_sources_without_great_chances(self):
        for marks, table in TABLES:
            keys = len(table[0])
            for size in range(1, keys + 1):
                most = number(worst_off(marks, table, size))
                for chances in bounded_sources(keys, size):
                    self.assertLessEqual(number(off(marks, table, passed(chances))), most)

    def test_never_grows_with_the_size(self):
        for marks, table in TABLES + GREAT:
            told = [number(worst_off(marks, table, size)) for size in range(1, len(table[0]) + 1)]
            self.assertEqual(told, sorted(told, reverse=True))

    def test_of_one_key(self):
        for marks, table in TABLES + GREAT:
            self.assertEqual(worst_off(marks, table, 1), (marks - 1, marks))

    def test_of_all_keys(self):
        for marks, table in TABLES:
            keys = len(table[0])
            self.assertEqual(worst_lot(marks, table, keys), tuple(range(keys)))
            self.assertEqual(worst_off(marks, table, keys), off(marks, table, ((1, keys),) * keys))

    def test_all_small_tables(self):
        for marks, keys, rows in ((2, 3, 2), (3, 2, 2), (2, 2, 3)):
            for table in all_tables(marks, keys, rows):
                for size in range(1, keys + 1):
                    offs = self.flat_offs(marks, table, size)
                    self.assertEqual(worst_off(marks, table, size), pair(max(offs.values())))
                    self.assertEqual(offs[worst_lot(marks, table, size)], max(offs.values()))

    def test_of_all_patterns(self):
        # Of two keys both have the first mark in 1 / v ^ 2 of the rows, and so on: 1 - 1 / v, or 1 - 2 / v off.
        for marks in (2, 3, 4, 5):
            table = tuple(product(range(marks), repeat=2))
            alike, unlike = Fraction(marks - 1, marks), Fraction(max(0, marks - 2), marks)
            expected = alike / marks + unlike * (1 - Fraction(1, marks))
            self.assertEqual(strength(marks, table), 2)
            self.assertEqual(worst_off(marks, table, 2), pair(expected))


class LeastSize(unittest.TestCase):
    def expected(self, marks, table, fraction):
        sizes = range(1, len(table[0]) + 1)
        return next((size for size in sizes if number(worst_off(marks, table, size)) <= fraction), None)

    def test_at_worst_offs_and_beside_them(self):
        for marks, table in SMALL:
            for size in range(1, len(table[0]) + 1):
                exact = number(worst_off(marks, table, size))
                for little in (Fraction(0), Fraction(1, 10 ** 30), Fraction(1, 97)):
                    for fraction in (exact + little, exact - little):
                        if fraction >= 0:
                            told = least_size(marks, table, pair(fraction))
                            self.assertEqual(told, self.expected(marks, table, fraction))
                self.assertLessEqual(least_size(marks, table, pair(exact)), size)

    def test_great_tables(self):
        for marks, table in GREAT:
            for size in (1, 4, 8):
                exact = number(worst_off(marks, table, size))
                for fraction in (exact, exact + Fraction(1, 10 ** 9), exact - Fraction(1, 10 ** 9)):
                    self.assertEqual(least_size(marks, table, pair(fraction)), self.expected(marks, table, fraction))

    def test_edges(self):
        for marks, table in SMALL:
            self.assertEqual(least_size(marks, table, (marks - 1, marks)), 1)
            self.assertEqual(least_size(marks, table, (10 ** 399, 1)), 1)
            last = number(worst_off(marks, table, len(table[0])))
            self.assertIs(least_size(marks, table, (0, 1)) is None, last > 0)
        self.assertEqual(least_size(5, ((0, 1, 2, 3, 4),), (0, 1)), 5)
        self.assertIsNone(least_size(3, LINES, (0, 1)))
        self.assertIsNone(least_size(2, BIT, (1, 10 ** 399)))
        self.assertEqual(least_size(2, ((0, 1),) * 128, (0, 1)), 2)


class Mixed(unittest.TestCase):
    def test_equal_rows_count_each(self):
        for marks in (2, 3, 5):
            table = mixed_table(marks, 5, 7, 3)
            for chances in sources(5):
                self.assertEqual(off(marks, table * 3, passed(chances)), off(marks, table, passed(chances)))
                self.assertEqual(off(marks, table[::-1], passed(chances)), off(marks, table, passed(chances)))


if __name__ == "__main__":
    unittest.main()
