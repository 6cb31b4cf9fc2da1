"""Certificates: the claim that is so, with the arguments as they were passed, and a paper that is accepted."""

import unittest
from fractions import Fraction
from itertools import product

from seedtables import certificates
from seedtables.apart import blind_lot, framed, is_apart_up_to
from seedtables.checker import accepts
from seedtables.collisions import worst_collision
from seedtables.counts import greatest_mean, least_mean
from seedtables.fewest import least_sum
from seedtables.leans import lean
from seedtables.made import free_strength, straight_table
from seedtables.orders import fairness, made_orders, slant
from seedtables.seals import forging_chance
from seedtables.single import at_least, greatest_single
from seedtables.sources import worst_off
from seedtables.tables import strength
from tests import by_hand, oracle
from tests.by_hand import number, pair
from tests.claims import CALLS, OPPOSITE
from tests.orders_by_rule import ORDERS
from tests.samples import BIT, FEW_COUNTS, GREAT, MIXED, STRONG, mixed_table, questions, units, with_sum

TABLES = MIXED + tuple((marks, table) for marks, table, _ in STRONG)
SHIFTS = (
    (Fraction(0), True), (Fraction(1, 10 ** 50), True), (Fraction(3, 7), True), (Fraction(10 ** 30), True),
    (Fraction(-1, 10 ** 50), False), (Fraction(-3, 7), False), (Fraction(-(10 ** 30)), False),
)
VECTORS = (
    (2, tuple(product((0, 1), repeat=3))), (2, units(6)), (2, units(6) + ((1,) * 6,)), (3, units(4) + ((1, 1, 1, 0),)),
    (5, units(6) + ((1, 2, 3, 4, 0, 0), (0, 0, 1, 1, 1, 2))), (5, ((0,), (1,), (2,), (3,), (4,))), (3, ((),) * 8),
    (5, ((),)), (2, ((1, 1), (1, 1))), (3, ((0, 0), (0, 1), (1, 0), (1, 1), (2, 2))), (5, ((4,) * 6,) * 8),
)


class Certified(unittest.TestCase):
    def certified(self, function, word, passed, told=()):
        """The claim is this one, of the very arguments that were passed and what is told; the paper is accepted."""
        both = function(*passed)
        self.assertIs(type(both), tuple)
        claim, paper = both
        self.assertEqual(claim[0], word, (function, passed))
        self.assertEqual(len(claim), 1 + len(passed) + len(told))
        for part, argument in zip(claim[1:], passed):
            self.assertIs(part, argument)
        self.assertEqual(claim[1 + len(passed):], tuple(told))
        self.assertIs(accepts(claim, paper), True, (claim, paper))
        other = dict(OPPOSITE + tuple((two, one) for one, two in OPPOSITE)).get(word)
        if other is not None:
            self.assertIs(accepts((other, *claim[1:]), paper), False)
            self.assertIs(accepts((other, *claim[1:]), ()), False)
        return paper

    def at_and_beside(self, function, words, passed, exact):
        """For fractions from the exact number on the first word, below it the second one."""
        for shift, is_first in SHIFTS:
            self.certified(function, words[0] if is_first else words[1], (*passed, pair(number(exact) + shift)))
        if exact[0] >= 0:
            self.certified(function, words[1], (*passed, (-1, 3)))


class Calls(Certified):
    def test_each_of_them(self):
        for name, calls in CALLS.items():
            for word, passed in calls:
                claim, paper = getattr(certificates, name)(*passed)
                self.assertEqual(claim[0], word, (name, passed))
                self.assertTrue(accepts(claim, paper))
                self.assertTrue(oracle.accepted(claim, paper))

    def test_by_position_and_by_name(self):
        names = {
            "certify_even": ("marks", "table", "size"), "certify_lean": ("marks", "table", "lot"),
            "certify_mean": ("marks", "many", "size", "question", "fraction"),
            "certify_single": ("marks", "many", "size", "question", "fraction"),
            "certify_rows": ("marks", "keys", "size", "fraction"), "certify_strength": ("prime", "vectors", "count"),
            "certify_collision": ("marks", "table"), "certify_off": ("marks", "table", "size", "fraction"),
            "certify_forging": ("marks", "table", "lot", "fraction"), "certify_fair": ("orders", "size"),
            "certify_apart": ("marks", "table", "size"), "certify_framing": ("marks", "table", "size"),
        }
        self.assertEqual(set(names), set(CALLS))
        for name, calls in CALLS.items():
            for _, passed in calls:
                function = getattr(certificates, name)
                self.assertEqual(function(**dict(zip(names[name], passed))), function(*passed))
        claim, paper = certificates.certify_even(2, BIT, 1)
        self.assertIs(accepts(paper=paper, claim=claim), True)


class Tables(Certified):
    def test_even(self):
        for marks, table in TABLES + GREAT:
            even = strength(marks, table)
            for size in range(len(table[0]) + 1):
                paper = self.certified(certificates.certify_even, "even" if size <= even else "uneven",
                                       (marks, table, size))
                if size > even:
                    self.assertEqual([len(part) for part in paper], [size] * 3)

    def test_lean(self):
        for marks, table in TABLES:
            for lot in by_hand.all_lots(len(table[0]))[::3]:
                told = (lean(marks, table, lot),)
                self.certified(certificates.certify_lean, "lean", (marks, table, lot), told)
        for marks, table in GREAT:
            lot = tuple(range(8))
            self.certified(certificates.certify_lean, "lean", (marks, table, lot), (lean(marks, table, lot),))

    def test_collision(self):
        for marks, table in TABLES + GREAT:
            if len(table[0]) > 1:
                told = (worst_collision(marks, table),)
                self.certified(certificates.certify_collision, "worst collision", (marks, table), told)

    def test_off(self):
        words = ("off up to", "off above")
        for marks, table in TABLES:
            for size in {1, (len(table[0]) + 1) // 2, len(table[0])}:
                exact = worst_off(marks, table, size)
                self.at_and_beside(certificates.certify_off, words, (marks, table, size), exact)
        for marks, table in GREAT:
            self.at_and_beside(certificates.certify_off, words, (marks, table, 4), worst_off(marks, table, 4))

    def test_forging(self):
        words = ("forged up to", "forged above")
        for marks, table in TABLES:
            for lot in by_hand.all_lots(len(table[0]))[:-1:7]:
                exact = forging_chance(marks, table, lot)
                self.at_and_beside(certificates.certify_forging, words, (marks, table, lot), exact)
        for marks, table in GREAT:
            for lot in ((), (0, 1, 2, 3, 4, 5, 6)):
                exact = forging_chance(marks, table, lot)
                self.at_and_beside(certificates.certify_forging, words, (marks, table, lot), exact)

    def test_apart(self):
        words = set()
        for marks, table in TABLES + GREAT:
            for size in range(1, len(table[0]) + 1):
                right = is_apart_up_to(marks, table, size)
                paper = self.certified(certificates.certify_apart, "apart" if right else "not apart",
                                       (marks, table, size))
                self.assertEqual(paper == blind_lot(marks, table, size), not right)
                words.add((right, size))
        self.assertGreater(len(words), 11)

    def test_framing(self):
        words = set()
        for marks, table in TABLES + GREAT:
            for size in range(1, len(table[0])):
                told = framed(marks, table, size)
                word = "unframed" if told is None else "framed"
                self.certified(certificates.certify_framing, word, (marks, table, size))
                words.add((word, size))
        self.assertGreater(len(words), 9)


class Means(Certified):
    def test_mean(self):
        words = ("mean up to", "mean above")
        for marks, many in FEW_COUNTS:
            if marks ** many > 300:
                continue
            question = questions(len(by_hand.all_counts(marks, many)))[many % 3]
            for size in range(many + 1):
                exact = greatest_mean(marks, many, size, question)
                self.at_and_beside(certificates.certify_mean, words, (marks, many, size, question), exact)

    def test_mean_of_most_counts(self):
        question = questions(56)[0]
        for size in (0, 2, 5):
            exact, least = greatest_mean(4, 5, size, question), least_mean(4, 5, size, question)
            self.certified(certificates.certify_mean, "mean up to", (4, 5, size, question, exact))
            little = pair(number(exact) - Fraction(1, 10 ** 30))
            self.certified(certificates.certify_mean, "mean above", (4, 5, size, question, little))
            self.certified(certificates.certify_mean, "mean up to" if least == exact else "mean above",
                           (4, 5, size, question, least))

    def test_single(self):
        words = ("single up to", "single above")
        for marks, many in ((2, 1), (2, 12), (10, 10), (60, 12), (3, 7), (59, 2)):
            for size in range(min(6, many) + 1):
                for question in (questions(many + 1)[0], at_least(many, (many + 1) // 2)):
                    exact = greatest_single(marks, many, size, question)
                    self.at_and_beside(certificates.certify_single, words, (marks, many, size, question), exact)

    def test_great_fractions(self):
        question = tuple(pair(Fraction((-1) ** at * 10 ** 399, 3 ** at)) for at in range(9))
        exact = greatest_mean(2, 8, 3, question)
        self.certified(certificates.certify_mean, "mean up to", (2, 8, 3, question, exact))
        self.certified(certificates.certify_mean, "mean above", (2, 8, 3, question, (-10 ** 399, 1)))


class Rows(Certified):
    def test_rows_from_up_to_the_least_sum_even_where_both_are_so(self):
        for marks, keys in product((2, 3, 4, 5), (1, 2, 5, 8, 12)):
            for size in range(keys + 1):
                exact = least_sum(marks, keys, size)
                for shift, is_above in SHIFTS:
                    word = "sum up to" if is_above and shift else "rows from"
                    passed = (marks, keys, size, pair(number(exact) + shift))
                    self.certified(certificates.certify_rows, word, passed)

    def test_both_are_accepted_at_the_least_sum(self):
        claim, prices = certificates.certify_rows(2, 6, 4, (80, 3))
        _, shares = certificates.certify_rows(2, 6, 4, (27, 1))
        self.assertEqual(claim[0], "rows from")
        self.assertIs(accepts(("sum up to", *claim[1:]), shares), True)
        self.assertIs(accepts(claim, prices), True)


class Strength(Certified):
    def test_counts_from_0_to_how_many_vectors_there_are(self):
        for prime, vectors in VECTORS:
            even = free_strength(prime, vectors)
            for count in range(len(vectors) + 1):
                word = "strength" if count <= even else "tied"
                paper = self.certified(certificates.certify_strength, word, (prime, vectors, count))
                if word == "tied":
                    self.assertTrue(oracle.is_tie(prime, vectors, *paper))

    def test_tables_agree(self):
        for prime, vectors in VECTORS[:2] + VECTORS[5:9]:
            if prime ** (len(vectors[0]) + 1) <= 128:
                table = straight_table(prime, vectors)
                for count in range(len(vectors) + 1):
                    one = certificates.certify_strength(prime, vectors, count)[0][0]
                    two = certificates.certify_even(prime, table, count)[0][0]
                    self.assertIn((one, two), (("strength", "even"), ("tied", "uneven")))


class Orders(Certified):
    def test_fair(self):
        for orders in ORDERS:
            fair = fairness(orders)
            for size in range(1, len(orders[0]) + 1):
                word = "fair" if size <= fair else "unfair"
                paper = self.certified(certificates.certify_fair, word, (orders, size))
                self.assertIs(word == "fair", slant(orders, size) == (0, 1))
                if word == "unfair":
                    self.assertNotEqual(oracle.told_likeness(orders, *paper), oracle.likeness(*paper))

    def test_made_orders(self):
        for keys in range(1, 7):
            self.certified(certificates.certify_fair, "fair", (made_orders(keys), keys))


class Great(Certified):
    def test_tables_of_eight_keys_and_128_rows(self):
        patterns = tuple(product((0, 1), repeat=7))
        for marks, table in ((2, with_sum(2, 7)), (2, patterns), (5, mixed_table(5, 8, 128, 3))):
            keys = len(table[0])
            for size in (1, keys - 1):
                for name in ("even", "apart", "framing"):
                    claim, paper = getattr(certificates, "certify_" + name)(marks, table, size)
                    self.assertIs(claim[2], table)
                    self.assertIs(accepts(claim, paper), True)


if __name__ == "__main__":
    unittest.main()
