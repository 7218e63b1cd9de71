"""The equations of damworks.ratios."""

import random
import unittest
from fractions import Fraction

from damworks.ratios import equation_of, solutions
from tests.helpers import fractions, ratios


class EquationsTest(unittest.TestCase):
    def test_an_equation(self):
        others = [(0, (1, 3)), (1, (1, 4)), (0, (1, 3))]
        self.assertEqual(equation_of(3, 1, others, (5, 2)), [(-2, 3), (3, 4), (0, 1), (5, 2)])
        self.assertEqual(equation_of(1, 0, [], (0, 1)), [(1, 1), (0, 1)])

    def test_factors_of_nothing_and_below(self):
        self.assertEqual(solutions([list(ratios((0, 1, 5))), list(ratios((-2, 0, 3)))]), ((-3, 2), (5, 1)))
        rows = [ratios((0, 0, 1, 1)), ratios((1, 0, 0, 2)), ratios((0, -1, 0, 3))]
        self.assertEqual(solutions(rows), ((2, 1), (-3, 1), (1, 1)))

    def test_putting_the_answers_in(self):
        dice = random.Random(151)
        for _ in range(200):
            count = dice.randint(1, 6)
            wanted = [Fraction(dice.randint(-9, 9), dice.randint(1, 9)) for _ in range(count)]
            rows = []
            # A triangle of factors with an order of its own has exactly one solution.
            for place in range(count):
                row = [Fraction(dice.randint(-2, 2), dice.randint(1, 3)) if at > place else Fraction(0)
                       for at in range(count)]
                row[place] = Fraction(dice.choice((-3, -1, 1, 2)), dice.randint(1, 3))
                rows.append(row)
            dice.shuffle(rows)
            mixed = [rows[0]] + [[one + other for one, other in zip(row, rows[0])] for row in rows[1:]]
            given = [list(ratios(row + [sum(map(Fraction.__mul__, row, wanted))])) for row in mixed]
            with self.subTest(given=given):
                self.assertEqual(fractions(solutions(given)), wanted)


if __name__ == "__main__":
    unittest.main()
