"""Point 6: firm yields, firm shares, round yields."""

import itertools
import random
import unittest
from fractions import Fraction

from damworks.yields import firm_share, firm_yield, round_yield, shows_yield, yield_paper
from tests.helpers import (
    BAD_DAMS, BAD_DEMANDS, BAD_INFLOWS, DAM, JUST_PLAN_DAMS, KINDS, NO_PLAN_DAMS, check_refused, check_shows, error_of,
    fraction, gives, has_plan, near_pairs, some_dams, some_demands, water_of_window, windows,
)

LITTLE = Fraction(1, 10 ** 9)


def right_papers(dam):
    """All windows that can give the firm yield and no more, by the words of the point."""
    shares = {
        (first, last): Fraction(water_of_window(dam, first, last, dam[2]), last - first + 1)
        for first, last in windows(len(dam[3]))
    }
    return [pair for pair in shares if shares[pair] == min(shares.values())]


class FirmYieldTest(unittest.TestCase):
    def check_yield(self, dam):
        months = len(dam[3])
        most = fraction(firm_yield(dam))
        self.assertGreaterEqual(most, 0)
        self.assertTrue(gives(dam, (most,) * months, dam[2]))
        self.assertFalse(gives(dam, (most + LITTLE,) * months, dam[2]))
        first, last = yield_paper(dam)
        self.assertTrue(0 <= first <= last < months)
        self.assertEqual(most * (last - first + 1), water_of_window(dam, first, last, dam[2]))

    def test_examples(self):
        self.assertEqual(firm_yield(DAM), (6, 1))
        self.assertEqual(yield_paper(DAM), (0, 1))

    def test_giving_the_yield_and_a_little_more(self):
        for dam in some_dams(600, 21):
            with self.subTest(dam):
                if has_plan(dam):
                    self.check_yield(dam)
                else:
                    self.assertEqual(error_of(firm_yield, dam), ("NoPlan", {}))
                    self.assertEqual(error_of(yield_paper, dam), ("NoPlan", {}))
                    self.assertEqual(error_of(shows_yield, dam, (0, 0)), ("NoPlan", {}))

    def test_edges(self):
        self.assertEqual(firm_yield((0, 0, 0, (3, 0, 5))), (0, 1))
        self.assertEqual(firm_yield((0, 0, 0, (3, 2, 5))), (2, 1))
        self.assertEqual(firm_yield((3, 1, 0, (0,))), (1, 1))
        self.assertEqual(firm_yield((3, 2, 3, (4,))), (3, 1))
        self.assertEqual(firm_yield((9, 1, 0, (0, 0, 0))), (1, 3))
        self.assertEqual(firm_yield((1000, 1000, 0, (1000,) * 12)), (3250, 3))
        self.assertEqual(firm_yield((5, 0, 4, (9, 0, 1))), (1, 1))

    def test_an_end_that_can_just_be_held(self):
        for dam in JUST_PLAN_DAMS:
            with self.subTest(dam):
                self.assertEqual(firm_yield(dam), (0, 1))
                self.check_yield(dam)

    def test_shows(self):
        for dam in (DAM, (0, 0, 0, (3, 0, 5)), (3, 1, 0, (0,)), (9, 1, 0, (0, 0, 0)), (5, 0, 4, (9, 0, 1)),
                    (2, 2, 2, (1, 1, 1, 1)), (6, 3, 0, (2, 0, 5, 0))) + JUST_PLAN_DAMS:
            right = right_papers(dam)
            sides = range(-1, len(dam[3]) + 2)
            others = list(itertools.product(sides, sides))
            for pair in right:
                others.extend(near_pairs(pair))
            check_shows(self, shows_yield, (dam,), right, others)

    def test_wrong_arguments(self):
        check_refused(self, firm_yield, (DAM,), 0, "BadDam", BAD_DAMS + KINDS)
        check_refused(self, yield_paper, (DAM,), 0, "BadDam", BAD_DAMS + KINDS)
        check_refused(self, shows_yield, (DAM, (0, 1)), 0, "BadDam", BAD_DAMS)
        for function in (firm_yield, yield_paper):
            check_refused(self, function, (DAM,), 0, "NoPlan", NO_PLAN_DAMS)
        check_refused(self, shows_yield, (DAM, (0, 1)), 0, "NoPlan", NO_PLAN_DAMS)


class FirmShareTest(unittest.TestCase):
    def test_example(self):
        self.assertEqual(firm_share(DAM, (1, 3)), (3, 1))

    def test_giving_the_share_and_a_little_more(self):
        for number, dam in enumerate(some_dams(600, 22)):
            demands = some_demands(dam, number)
            with self.subTest(dam=dam, demands=demands):
                if sum(demands) == 0:
                    self.assertEqual(error_of(firm_share, dam, demands), ("BadDemands", {}))
                elif not has_plan(dam):
                    self.assertEqual(error_of(firm_share, dam, demands), ("NoPlan", {}))
                else:
                    share = fraction(firm_share(dam, demands))
                    self.assertGreaterEqual(share, 0)
                    self.assertTrue(gives(dam, [share * demand for demand in demands], dam[2]))
                    more = share + LITTLE
                    self.assertFalse(gives(dam, [more * demand for demand in demands], dam[2]))

    def test_edges(self):
        self.assertEqual(firm_share((3, 1, 0, (0,)), (7,)), (1, 7))
        self.assertEqual(firm_share((1, 1, 0, (1000,)), (1,)), (1001, 1))
        self.assertEqual(firm_share((0, 0, 0, (3, 0)), (1, 0)), (3, 1))
        self.assertEqual(firm_share((0, 0, 0, (3, 0)), (0, 1)), (0, 1))
        for dam in JUST_PLAN_DAMS:
            self.assertEqual(firm_share(dam, (1, 1)), (0, 1))

    def test_wrong_arguments(self):
        check_refused(self, firm_share, (DAM, (1, 3)), 0, "BadDam", BAD_DAMS)
        check_refused(self, firm_share, (DAM, (1, 3)), 1, "BadDemands", BAD_DEMANDS + ((0, 0),))
        for dam in NO_PLAN_DAMS:
            check_refused(self, firm_share, (dam, (1, 3)), 1, "BadDemands", BAD_DEMANDS + ((0, 0),))
            self.assertEqual(error_of(firm_share, dam, (1, 3)), ("NoPlan", {}))


class RoundYieldTest(unittest.TestCase):
    def gives_round(self, capacity, inflows, amount):
        """Whether the amount is given for so many turns that a fault of a thousandth shows, from a full dam."""
        turns = 2000
        return gives((capacity, capacity, 0, inflows * turns), (amount,) * (len(inflows) * turns), 0)

    def test_example(self):
        self.assertEqual(round_yield(2, (1, 5)), (3, 1))

    def test_giving_the_yield_and_a_little_more(self):
        dice = random.Random(23)
        for _ in range(60):
            capacity = dice.choice((0, 1, 2, 4, 9))
            inflows = tuple(dice.randint(0, 9) for _ in range(dice.choice((1, 2, 3, 5))))
            with self.subTest(capacity=capacity, inflows=inflows):
                amount = fraction(round_yield(capacity, inflows))
                self.assertTrue(self.gives_round(capacity, inflows, amount))
                self.assertFalse(self.gives_round(capacity, inflows, amount + Fraction(1, 200)))

    def test_edges(self):
        self.assertEqual(round_yield(0, (0,)), (0, 1))
        self.assertEqual(round_yield(1000, (3,)), (3, 1))
        self.assertEqual(round_yield(0, (4, 1, 5)), (1, 1))
        self.assertEqual(round_yield(1000, (1, 0, 1)), (2, 3))
        self.assertEqual(round_yield(1, (0, 9, 0)), (1, 2))
        self.assertEqual(round_yield(1000, (1000,) * 12), (1000, 1))
        self.assertEqual(round_yield(1, (9, 9, 0, 0)), (1, 2))

    def test_wrong_arguments(self):
        bad = tuple(value for value in KINDS if repr(value) not in ("0", "1", "7"))
        check_refused(self, round_yield, (2, (1, 5)), 0, "BadCapacity", bad)
        check_refused(self, round_yield, (2, (1, 5)), 1, "BadInflows", BAD_INFLOWS)


if __name__ == "__main__":
    unittest.main()
