"""The exact search for greatest means: settling, climbing, and not coming round for ever."""

import unittest
from fractions import Fraction
from itertools import combinations

from seedtables.common import Program


class Counted(Program):
    """A program that ends if it makes far more steps than it should."""

    steps = 0

    def exchange(self, row, column):
        self.steps += 1
        if self.steps > 200:
            raise RuntimeError("too many steps")
        super().exchange(row, column)


def round_program():
    """Where the steepest steps, each to the first number of like ones, come round after six (Chvatal 1983)."""
    rows = [[1, -11, -5, 18, 0], [1, -3, -1, 2, 0], [2, 0, 0, 0, 2], [-20, 114, 18, 48, 0]]
    program = Counted(rows, [4, 5, 6], [0, 1, 2, 3])
    # All 2 * 2 minors of the rows are even, so that all stays whole.
    program.divisor = 2
    return program


def solution(rows, held, free, chosen):
    """All numbers if the chosen ones alone may be above 0, by elimination; None if they do not tell them."""
    lines = []
    for row, index in zip(rows, held):
        line = {index: Fraction(1)} | {column: Fraction(entry) for column, entry in zip(free, row) if entry}
        lines.append(([line.get(one, Fraction(0)) for one in chosen], Fraction(row[-1])))
    for place in range(len(chosen)):
        pivot = next((at for at in range(place, len(lines)) if lines[at][0][place]), None)
        if pivot is None:
            return None
        lines[place], lines[pivot] = lines[pivot], lines[place]
        terms, last = lines[place]
        lines[place] = ([term / terms[place] for term in terms], last / terms[place])
        for at, (others, other_last) in enumerate(lines):
            if at != place:
                factor = others[place]
                changed = [one - factor * two for one, two in zip(others, lines[place][0])]
                lines[at] = (changed, other_last - factor * lines[place][1])
    numbers = [Fraction(0)] * (len(held) + len(free))
    for one, (_, last) in zip(chosen, lines):
        numbers[one] = last
    return numbers


def greatest_gain(rows, held, free):
    """The greatest gain of all corners."""
    gains = []
    for chosen in combinations(range(len(held) + len(free)), len(held)):
        numbers = solution(rows[:-1], held, free, chosen)
        if numbers is not None and min(numbers) >= 0:
            gains.append(rows[-1][-1] - sum(entry * numbers[one] for entry, one in zip(rows[-1], free)))
    return max(gains)


def small_programs():
    """Rows, held and free numbers, and how many the free ones are at first; all of them have a greatest gain."""
    state = 5
    for case in range(150):
        entries = []
        for _ in range(30):
            state = (state * 1103515245 + 12345) % 2 ** 31
            entries.append((state >> 16) % 9 - 4)
        many, wide = 2 + case % 2, 2 + case // 2 % 3
        rows = [entries[at * wide:(at + 1) * wide] for at in range(many)]
        begun = [1 + abs(one) for one in entries[12:12 + wide]]
        held_at_first = [abs(one) % 4 for one in entries[16:16 + many]]
        # The last row bounds all numbers.
        rows.append([1] * wide)
        held_at_first.append(3 + case % 4)
        gain = entries[20:20 + wide]
        held = list(range(1, many + 2))
        free = [0, *range(many + 2, many + 1 + wide)]
        rows = [[*row, last] for row, last in zip(rows, held_at_first)] + [[*gain, 7]]
        yield rows, held, free, begun


def from_nought(rows, begun):
    """The rows as they are for free numbers that are 0 at first."""
    return [[*row[:-1], row[-1] + sum(entry * one for entry, one in zip(row, begun))] for row in rows]


class Settling(unittest.TestCase):
    def numbers(self, program, waiting):
        """All numbers, and the gain, those that are not settled yet being what they were at first."""
        numbers = [Fraction(one, program.divisor) for one in program.numbers()]
        for column, begun in waiting:
            numbers[program.free[column]] = Fraction(begun)
        return numbers, Fraction(program.gain(), program.divisor)

    def test_no_number_falls_below_0_and_the_gain_does_not_fall(self):
        ways = set()
        for rows, held, free, begun in small_programs():
            program = Counted(rows, held, free)
            gain = Fraction(program.gain())
            for column, one in enumerate(begun):
                before = program.steps
                program.settle(column, one)
                numbers, new_gain = self.numbers(program, list(enumerate(begun))[column + 1:])
                self.assertGreaterEqual(min(numbers), 0)
                self.assertGreaterEqual(new_gain, gain)
                self.rows_hold(from_nought(rows, begun), held, free, numbers, new_gain)
                ways.add((program.steps > before, new_gain > gain))
                gain = new_gain
        self.assertEqual(len(ways), 4)

    def rows_hold(self, rows, held, free, numbers, gain):
        """The numbers are such as the first rows tell."""
        for row, worth in zip(rows, [numbers[one] for one in held] + [gain], strict=True):
            self.assertEqual(worth, row[-1] - sum(entry * numbers[one] for entry, one in zip(row, free)))

    def test_climbs_to_the_greatest_gain_of_all_corners(self):
        for rows, held, free, begun in small_programs():
            program = Counted(rows, held, free)
            for column, one in enumerate(begun):
                program.settle(column, one)
            program.climb()
            numbers, gain = self.numbers(program, ())
            self.assertGreaterEqual(min(numbers), 0)
            self.rows_hold(from_nought(rows, begun), held, free, numbers, gain)
            self.assertEqual(gain, greatest_gain(from_nought(rows, begun), held, free))
            self.assertGreaterEqual(min(program.losses()), 0)


class ComingRound(unittest.TestCase):
    def test_steepest_steps_come_round(self):
        program = round_program()
        for _ in range(6):
            column = program.rising_column(False)
            program.exchange(program.tightest_row(column, 1), column)
        self.assertEqual((sorted(program.held), sorted(program.free)), ([4, 5, 6], [0, 1, 2, 3]))

    def test_the_climb_does_not(self):
        program = round_program()
        program.climb()
        self.assertEqual(Fraction(program.gain(), program.divisor), 1)
        self.assertEqual([Fraction(one, program.divisor) for one in program.numbers()], [1, 0, 1, 0, 2, 0, 0])


if __name__ == "__main__":
    unittest.main()
