"""What the checker accepts, against the words of the document, for papers and claims of all kinds."""

import unittest
from fractions import Fraction
from itertools import product

from seedtables import certificates
from seedtables.checker import accepts
from tests import by_hand, oracle, wrong
from tests.by_hand import number, pair
from tests.claims import CALLS, FIGURES, OPPOSITE, SQUARE, TURNS, bent, some
from tests.samples import BIT, GREAT, LINES, ODD, TRIPLED, mixed_table, questions, units


def pairs():
    """A claim and a paper for each of the calls."""
    return [getattr(certificates, name)(*passed) for name, calls in CALLS.items() for _, passed in calls]


class Accepted(unittest.TestCase):
    def agree(self, claim, paper):
        """The checker tells just what the document does."""
        expected = oracle.accepted(claim, paper)
        told = accepts(claim, paper)
        self.assertIs(told, expected, (claim, paper))
        return told


class Papers(Accepted):
    def test_those_of_this_package(self):
        words = set()
        for claim, paper in pairs():
            self.assertTrue(self.agree(claim, paper), (claim, paper))
            words.add(claim[0])
        self.assertEqual(words, set(oracle.WORDS))

    def test_bent_at_each_place(self):
        for claim, paper in pairs():
            told = [self.agree(claim, value) for value in bent(paper)]
            self.assertIn(False, told)

    def test_bent_at_two_places(self):
        for claim, paper in pairs():
            for once in some(bent(paper), 20):
                if type(once) is tuple:
                    for value in some(bent(once), 25):
                        self.agree(claim, value)

    def test_list_in_the_place_of_a_tuple_at_any_depth(self):
        for claim, paper in pairs():
            self.assertIs(accepts(claim, list(paper)), False)
            self.assertIs(accepts(list(claim), paper), False)
            for at, part in enumerate(paper):
                if type(part) is tuple:
                    self.assertIs(accepts(claim, paper[:at] + (list(part),) + paper[at + 1:]), False)
                    for place, inner in enumerate(part):
                        if type(inner) is tuple:
                            changed = part[:place] + (list(inner),) + part[place + 1:]
                            self.assertIs(accepts(claim, paper[:at] + (changed,) + paper[at + 1:]), False)

    def test_true_and_false_in_the_place_of_numbers(self):
        def changed(value):
            """The value with True or False in the place of 1 or 0, at one place each time."""
            if type(value) is int:
                return [bool(value)] if value in (0, 1) else []
            if type(value) is not tuple:
                return []
            return [
                value[:at] + (one,) + value[at + 1:] for at, part in enumerate(value) for one in changed(part)
            ]

        seen = 0
        for claim, paper in pairs():
            for value in changed(paper):
                self.assertIs(accepts(claim, value), False, (claim, value))
                seen += 1
            for value in changed(claim):
                self.assertIs(accepts(value, paper), False, (value, paper))
                seen += 1
        self.assertGreater(seen, 500)

    def test_where_none_is_told_and_where_one_is(self):
        without = ("even", "lean", "strength", "worst collision", "off up to", "forged up to", "fair", "unframed")
        for claim, paper in pairs():
            if claim[0] in without:
                self.assertEqual(paper, ())
                for value in wrong.any_values():
                    if not (type(value) is tuple and value == ()):
                        self.assertIs(accepts(claim, value), False, (claim, value))
            else:
                self.assertNotEqual(paper, ())
                self.assertIs(accepts(claim, ()), False, claim)

    def test_of_other_claims(self):
        told = pairs()
        for claim, paper in told:
            for _, other in told:
                self.agree(claim, other)

    def test_fractions_not_in_lowest_terms(self):
        """Where a paper is a row of fractions, or a claim ends in one, each of them is told in lowest terms."""
        words = ("mean up to", "mean above", "single up to", "single above", "rows from", "sum up to", "off above")
        for claim, paper in pairs():
            if claim[0] in words:
                for at, (above, below) in enumerate(paper):
                    for times in (2, 3, -1, 10 ** 30):
                        bad = paper[:at] + ((above * times, below * times),) + paper[at + 1:]
                        self.assertIs(accepts(claim, bad), False)
            if claim[0] in words + ("lean", "worst collision", "off up to", "forged up to", "forged above"):
                above, below = claim[-1]
                for times in (2, 3, -1, 10 ** 30):
                    self.assertIs(accepts(claim[:-1] + ((above * times, below * times),), paper), False)


class Claims(Accepted):
    def test_bent_at_each_place(self):
        for claim, paper in pairs():
            told = [self.agree(value, paper) for value in bent(claim)]
            self.assertIn(False, told)

    def test_more_or_fewer_elements(self):
        for claim, paper in pairs():
            for more in (0, (), (0, 1), None, "even", claim[-1]):
                self.assertIs(accepts(claim + (more,), paper), False)
            for many in range(len(claim)):
                self.assertIs(accepts(claim[:many], paper), False)

    def test_unknown_words(self):
        for claim, paper in pairs():
            for word in ("", "Even", "EVEN", claim[0] + " ", " " + claim[0], claim[0][:-1], claim[0] * 2, "mean", "off",
                         claim[0].encode("ascii"), None, 0, (claim[0],), [claim[0]], {claim[0]: 1}, object()):
                self.assertIs(accepts((word, *claim[1:]), paper), False)

    def test_words_of_other_claims(self):
        for claim, paper in pairs():
            for word in oracle.WORDS:
                self.agree((word, *claim[1:]), paper)

    def test_values_of_any_kind_in_both_places(self):
        for claim, paper in product(wrong.any_values(), repeat=2):
            self.assertIs(accepts(claim, paper), False)
        for claim, paper in pairs():
            for value in wrong.any_values():
                self.agree(claim, value)
                self.assertIs(accepts(value, paper), False)
        for word, (many, _) in oracle.WORDS.items():
            for value in wrong.any_values():
                for paper in ((), None, (value,), value):
                    self.assertIs(accepts((word,) + (value,) * many, paper), False)

    def test_values_of_any_kind_as_each_part(self):
        for claim, paper in pairs():
            for at in range(1, len(claim)):
                for value in wrong.any_values():
                    self.agree(claim[:at] + (value,) + claim[at + 1:], paper)

    def test_all_words_with_true_and_false_claims(self):
        told = {word: set() for word in oracle.WORDS}
        for claim, paper in pairs():
            for value in [claim] + bent(claim):
                told[claim[0]].add(accepts(value, paper))
        self.assertEqual(set(map(tuple, map(sorted, told.values()))), {(False, True)})


class Bounds(Accepted):
    """How many there may be of each, as the parts before tell it."""

    def test_no_more_than_128_rows_and_8_keys(self):
        for keys, rows in ((8, 128), (8, 129), (9, 128), (9, 3), (1, 128), (1, 129)):
            table = ((0,) * keys,) * rows
            for claim in (
                ("lean", 2, table, (), (1, 1)), ("even", 2, table, 0), ("worst collision", 2, table, (1, 1)),
                ("off up to", 2, table, 1, (1, 2)), ("forged up to", 2, table, (), (1, 1)),
            ):
                right = keys <= 8 and rows <= 128 and not (claim[0] == "worst collision" and keys == 1)
                self.assertIs(accepts(claim, ()), right, (claim[0], keys, rows))
            self.assertIs(accepts(("framed", 2, table, 1), (0, (1,))), 1 < keys <= 8 and rows <= 128)
            self.assertIs(accepts(("not apart", 2, table, 2), (0, 1)), 1 < keys <= 8 and rows <= 128)

    def test_no_more_than_60_counts(self):
        # One fraction alone is the least question, and the polynomial that is always 7.
        for marks, many, right in ((4, 5, True), (5, 3, True), (4, 6, False), (5, 4, False), (3, 8, True)):
            length = len(by_hand.all_counts(marks, many))
            question = ((7, 1),) * length
            self.assertIs(accepts(("mean up to", marks, many, 0, question, (7, 1)), ((7, 1),)), right)
            shares = ((1, 1),) + ((0, 1),) * (length - 1)
            self.assertIs(accepts(("mean above", marks, many, 0, question, (6, 1)), shares), right)

    def test_single_has_bounds_of_its_own(self):
        for marks, many, size in product((1, 2, 60, 61), (0, 1, 12, 13), (0, 1, 6, 7)):
            right = 2 <= marks <= 60 and 1 <= many <= 12 and size <= min(6, many)
            claim = ("single up to", marks, many, size, ((7, 1),) * (many + 1), (7, 1))
            self.assertIs(accepts(claim, ((7, 1),) + ((0, 1),) * size), right)

    def test_sizes_just_inside_and_outside(self):
        for size in range(-1, 5):
            self.assertIs(accepts(("even", 2, TRIPLED + ODD, size), ()), 0 <= size <= 3)
            self.assertIs(accepts(("off up to", 2, TRIPLED, size, (1, 2)), ()), 1 <= size <= 3)
            self.assertIs(accepts(("fair", TURNS, size), ()), size == 1)
            lots = {2: 3, 3: 1}.get(size, 3)
            self.assertIs(accepts(("apart", 3, ((0, 1, 2),), size), (0,) * lots), 1 <= size <= 3)
            self.assertIs(accepts(("unframed", 3, ((0, 1, 2),), size), ()), 1 <= size <= 2)
            self.assertIs(accepts(("strength", 2, SQUARE, size), ()), 0 <= size <= 3)

    def test_keys_of_rows(self):
        for keys in (0, 1, 12, 13):
            self.assertIs(accepts(("rows from", 2, keys, 0, (1, 1)), ((0, 1),) * keys), 1 <= keys <= 12)
            self.assertIs(accepts(("sum up to", 2, keys, 0, (1, 1)), ((1, 1),) + ((0, 1),) * keys), 1 <= keys <= 12)

    def test_no_more_than_120_orders_of_6_keys(self):
        for keys, many in ((6, 120), (6, 121), (7, 2), (1, 120), (1, 121)):
            orders = (tuple(range(keys)),) * many
            self.assertIs(accepts(("fair", orders, 1), ()), keys <= 6 and many <= 120)
            if keys > 1:
                self.assertIs(accepts(("unfair", orders, 2), ((0, 1), (0,))), keys <= 6 and many <= 120)

    def test_strength_however_many_rows(self):
        for prime, most in ((2, 7), (3, 7), (5, 7)):
            self.assertIs(accepts(("strength", prime, units(6), 6), ()), True)
            self.assertIs(accepts(("strength", prime, units(7), 7), ()), False)
            vectors = units(6) + ((1,) * 6,)
            for count in range(most + 1):
                self.agree(("strength", prime, vectors, count), ())

    def test_even_however_many_patterns(self):
        for marks, table in GREAT:
            keys = tuple(range(8))
            row = table[0]
            other = next(one for one in product(range(marks), repeat=8) if one not in table)
            self.assertIs(accepts(("even", marks, table, 8), ()), False)
            self.assertIs(accepts(("uneven", marks, table, 8), (keys, row, other)), True)
            self.assertIs(accepts(("uneven", marks, table, 8), (keys, other, row)), True)
            self.assertIs(accepts(("uneven", marks, table, 8), (keys, row, row)), False)

    def test_lot_of_all_keys_for_forging(self):
        self.assertIs(accepts(("forged up to", 2, BIT, (0,), (1, 1)), ()), False)
        self.assertIs(accepts(("forged up to", 2, BIT, (), (1, 1)), ()), True)
        self.assertIs(accepts(("forged up to", 2, TRIPLED, (0, 1, 2), (1, 1)), ()), False)

    def test_great_fractions(self):
        great, small = (10 ** 399, 1), (1, 10 ** 399)
        question = (small, great, (-10 ** 399, 7), small)
        self.assertIs(accepts(("mean up to", 2, 3, 0, question, great), (great,)), True)
        self.assertIs(accepts(("mean up to", 2, 3, 0, question, (10 ** 399 - 1, 1)), (great,)), False)
        self.assertIs(accepts(("off up to", 3, LINES, 1, great), ()), True)
        self.assertIs(accepts(("off above", 3, LINES, 1, (-10 ** 399, 1)), ((1, 1), (0, 1))), True)
        self.assertIs(accepts(("rows from", 2, 2, 2, great), ((1, 1), (1, 1))), False)
        self.assertIs(accepts(("sum up to", 2, 2, 2, great), (great, (2 * 10 ** 399, 1), great)), False)


class Exclusive(Accepted):
    def test_at_most_one_of_two_claims_has_a_paper(self):
        papers = [paper for _, paper in pairs()]
        opposite = dict(OPPOSITE) | {two: one for one, two in OPPOSITE}
        seen = set()
        for claim, paper in pairs():
            if claim[0] in opposite:
                other = (opposite[claim[0]], *claim[1:])
                self.assertTrue(accepts(claim, paper))
                seen.add(claim[0])
                for one in papers + bent(paper) + [()]:
                    self.assertIs(accepts(other, one), False, (other, one))
        self.assertEqual(len(seen), 18)

    def test_least_sums_exclude_one_another_but_where_both_are_so(self):
        for claim, paper in pairs():
            if claim[0] in ("rows from", "sum up to"):
                above, below = claim[-1]
                exact = certificates.rows_answer(*claim[1:4])[0]
                other = "sum up to" if claim[0] == "rows from" else "rows from"
                for one in [paper for _, paper in pairs()]:
                    told = accepts((other, *claim[1:]), one)
                    self.assertFalse(told and (above, below) != exact)

    def test_both_so_at_the_least_sum(self):
        for marks, keys, size in ((2, 3, 2), (2, 6, 4), (5, 12, 6)):
            least, shares, prices = certificates.rows_answer(marks, keys, size)
            self.assertIs(accepts(("rows from", marks, keys, size, least), prices), True)
            self.assertIs(accepts(("sum up to", marks, keys, size, least), shares), True)

    def test_numbers_told_are_the_only_ones(self):
        for claim, paper in pairs():
            if claim[0] in ("lean", "worst collision"):
                above, below = claim[-1]
                for value in ((above + 1, below), (above - 1, below), (above, below + 1), (-1, 1), (10 ** 30, 1)):
                    if value != claim[-1]:
                        self.agree((*claim[:-1], value), paper)
                        self.assertIs(accepts((*claim[:-1], value), ()), False)


class EdgeOfFractions(Accepted):
    """Claims with the exact number, and with a little more or less."""

    def test_papers_do_for_the_exact_number_alone(self):
        little = Fraction(1, 10 ** 40)
        for name, passed, fraction in (
            ("mean", (2, 3, 2, ((0, 1), (0, 1), (0, 1), (1, 1))), Fraction(1, 4)),
            ("single", (10, 10, 1, ((0, 1),) * 5 + ((1, 1),) * 6), Fraction(1, 5)),
            ("off", (2, TRIPLED, 2), Fraction(1, 4)),
            ("forging", (2, TRIPLED, (0,)), Fraction(1, 2)),
        ):
            certify = getattr(certificates, "certify_" + name)
            for shift, ending in ((0, "up to"), (little, "up to"), (-little, "above"), (-1000, "above")):
                claim, paper = certify(*passed, pair(fraction + shift))
                self.assertTrue(claim[0].endswith(ending), claim)
                self.assertTrue(self.agree(claim, paper))
                # A paper for what is above does not do for the number itself.
                exact = (*claim[:-1], pair(fraction))
                self.assertIs(self.agree(exact, paper), ending == "up to")

    def test_questions_of_many_counts(self):
        for marks, many, size in ((4, 5, 3), (3, 8, 4), (5, 3, 1), (2, 8, 8)):
            question = questions(len(by_hand.all_counts(marks, many)))[0]
            mean = certificates.counts_answer(marks, many, size, question)[0]
            for shift in (0, Fraction(1, 10 ** 9), Fraction(-1, 10 ** 9)):
                passed = (marks, many, size, question, pair(number(mean) + shift))
                self.assertTrue(self.agree(*certificates.certify_mean(*passed)))

    def test_off_of_sources_with_great_chances(self):
        source = ((2, 3), (1, 3), (0, 1))
        self.assertIs(accepts(("off above", 2, TRIPLED, 1, (1, 4)), source), True)
        self.assertIs(accepts(("off above", 2, TRIPLED, 2, (0, 1)), source), False)
        self.assertIs(accepts(("off above", 2, TRIPLED, 2, (0, 1)), ((1, 2), (1, 3), (1, 6))), True)
        self.assertIs(accepts(("off above", 2, TRIPLED, 2, (1, 4)), ((1, 2), (1, 2), (0, 1))), False)

    def test_lots_with_too_many_keys_together(self):
        # The lots (0, 1) and (1, 2) are told right; (0, 1) and (0,) are not, with two keys together.
        self.assertIs(accepts(("unfair", TURNS, 2), ((0, 1), (0,))), True)
        self.assertIs(accepts(("unfair", TURNS, 1), ((0, 1), (0,))), False)
        self.assertIs(accepts(("unfair", TURNS, 3), ((0, 1), (0,))), True)
        self.assertIs(accepts(("unfair", TURNS, 3), ((0, 1), (1, 2))), False)
        self.assertIs(accepts(("unfair", TURNS, 3), ((0, 1), (2,))), False)
        for paper in ((), ((0, 1), ()), ((), (0,)), ((0, 1), (0,), (0,)), ((1, 0), (0,)), ((0, 3), (0,)), ((0, 1), 0)):
            self.assertIs(accepts(("unfair", TURNS, 3), paper), False)

    def test_shares_of_unlikeness_for_no_more_than_the_size(self):
        # Four times two unlike marks of three: the sum for K_1 is 0, that for K_2 is - 2, that for K_3 is 4.
        paper = ((1, 1), (1, 1), (4, 1), (0, 1))
        self.assertIs(self.agree(("sum up to", 2, 3, 1, (6, 1)), paper), False)
        self.assertIs(self.agree(("sum up to", 2, 3, 0, (6, 1)), paper), False)
        self.assertIs(self.agree(("sum up to", 2, 3, 0, (6, 1)), ((1, 1), (5, 1), (0, 1), (0, 1))), False)
        # With all of them on three keys the first sum alone is 0, the second one 3, the last one 0.
        paper = ((1, 1), (3, 2), (3, 2), (1, 1))
        self.assertIs(self.agree(("sum up to", 2, 3, 1, (5, 1)), paper), True)
        self.assertIs(self.agree(("sum up to", 2, 3, 1, (49, 10)), paper), False)
        self.assertIs(self.agree(("sum up to", 2, 3, 2, (5, 1)), paper), False)
        # The first share may be above 1, but not below it.
        double = tuple(pair(number(one) * 2) for one in paper)
        self.assertIs(self.agree(("sum up to", 2, 3, 1, (10, 1)), double), True)
        half = tuple(pair(number(one) / 2) for one in paper)
        self.assertIs(self.agree(("sum up to", 2, 3, 1, (10, 1)), half), False)

    def test_keys_that_are_none(self):
        for table in (FIGURES, ((0, 1, 1, 1),), ((0, 0, 0, 0),)):
            for key in range(-3, 9):
                for lot in ((1,), (1, 2), (2, 3), (0, 4), (3, 4), (-1, 2)):
                    self.agree(("framed", 2, table, len(lot)), (key, lot))
        for index in range(-3, 4):
            self.agree(("apart", 2, FIGURES, 4), (index,))
            self.agree(("apart", 4, ((0, 1, 2, 3),), 4), (index,))

    def test_ties_with_numbers_that_are_none(self):
        vectors = ((1,), (1,), (2,), (4,))
        for prime in (3, 5):
            alike = tuple((one % prime,) for (one,) in vectors)
            for lot in ((), (0,), (0, 1), (0, 1, 2), (0, 1, 3), (0, 1, 2, 3)):
                for tie in product((-1, 0, 1, prime - 1, prime, prime + 1), repeat=len(lot)):
                    self.agree(("tied", prime, alike, 4), (lot, tie))
        claim = ("tied", 5, vectors, 3)
        self.assertIs(accepts(claim, ((0, 1), (1, 4))), True)
        for tie in ((1, 4, 0), (1, 4, 5), (1, -1, 0), (6, 4, 0), (0, 0, 0), (5, 5, 5)):
            self.assertIs(accepts(claim, ((0, 1, 2), tie)), False)
        for tie in ((0, 0), (5, 5), (1, -1), (6, 4), (True, 4), (1, 4, 0), (1,)):
            self.assertIs(accepts(claim, ((0, 1), tie)), False)

    def test_rows_that_tell_apart(self):
        claim = ("apart", 2, FIGURES, 2)
        self.assertIs(accepts(claim, (1, 0, 0, 0, 0, 1)), True)
        self.assertIs(accepts(claim, (1, 0, 1, 1, 0, 1)), True)
        self.assertIs(accepts(claim, (0, 0, 0, 0, 0, 1)), False)
        self.assertIs(accepts(claim, (1, 0, 0, 0, 0, 2)), False)
        self.assertIs(accepts(claim, (-1, 0, 0, 0, 0, 1)), False)
        self.assertIs(accepts(("apart", 2, mixed_table(2, 3, 4, 1), 3), (0,)), False)


if __name__ == "__main__":
    unittest.main()
