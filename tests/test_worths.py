"""Point 8: worths, the best worth and best plans."""

import random
import unittest

from damworks.dams import levels
from damworks.worths import best_plan, best_worth, plan_worth, shows_best
from tests.helpers import (
    BAD_DAMS, BAD_WORTHS, DAM, JUST_PLAN_DAMS, NO_PLAN_DAMS, WORTHS, check_refused, check_shows, check_worths_refused,
    error_of, fraction, half_plans, has_plan, ratios, some_dams, some_worths, worth_of,
)
from tests.test_dams import BAD_PLANS


def best_another_way(dam, worths):
    """The best worth by all integers that can be held behind each month, None without a plan."""
    capacity, start, end, inflows = dam
    best = {start: 0}
    for inflow, pairs in zip(inflows, worths):
        prices = [price for amount, price in pairs for _ in range(amount)]
        sums = [0]
        for price in prices:
            sums.append(sums[-1] + price)
        after = {}
        for held, worth in best.items():
            for kept in range(min(capacity, held + inflow) + 1):
                found = worth + sums[min(held + inflow - kept, len(prices))]
                after[kept] = max(found, after.get(kept, 0))
        best = after
    return max((worth for held, worth in best.items() if held >= end), default=None)


def many_worths(many, seed):
    """Dams, with plans and without, with worths."""
    dice = random.Random(seed)
    for dam in some_dams(many, seed):
        if dam[0] <= 20:
            yield dam, some_worths(len(dam[3]), dice, dice.choice((1, 2, 5, 20)))


class PlanWorthTest(unittest.TestCase):
    def test_example(self):
        self.assertEqual(plan_worth(DAM, WORTHS, ((8, 1), (4, 1))), (28, 1))

    def test_against_half_units(self):
        worths = (((1, 7), (1, 3), (2, 1)), ((2, 5),), ())
        for dam in ((4, 2, 1, (1, 3, 1)), (2, 0, 2, (4, 0, 3)), (0, 0, 0, (5, 1, 0))):
            for plan in half_plans(dam):
                with self.subTest(dam=dam, plan=plan):
                    expected = sum(worth_of(pairs, release) for pairs, release in zip(worths, plan))
                    self.assertEqual(fraction(plan_worth(dam, worths, ratios(plan))), expected)

    def test_nothing_is_worth_more_than_the_pairs(self):
        self.assertEqual(plan_worth((0, 0, 0, (1000,)), (((1, 1),),), ((1000, 1),)), (1, 1))
        self.assertEqual(plan_worth((0, 0, 0, (1000,)), ((),), ((1000, 1),)), (0, 1))
        self.assertEqual(plan_worth((9, 9, 0, (0,)), (((1, 9), (1, 5), (1, 2)),), ((5, 2),)), (15, 1))
        self.assertEqual(plan_worth((9, 9, 0, (0,)), (((1, 9), (1, 5), (1, 2)),), ((7, 3),)), (44, 3))

    def test_wrong_arguments(self):
        args = (DAM, WORTHS, ((8, 1), (4, 1)))
        check_refused(self, plan_worth, args, 0, "BadDam", BAD_DAMS)
        for value, index in BAD_WORTHS:
            check_refused(self, plan_worth, args, 1, "BadWorths", [value], index=index)
        check_refused(self, plan_worth, args, 2, "BadPlan", BAD_PLANS)

    def test_a_dam_without_a_plan(self):
        for dam in NO_PLAN_DAMS:
            self.assertEqual(error_of(plan_worth, dam, WORTHS, ((0, 1), (0, 1))), ("BadPlan", {}))


class BestWorthTest(unittest.TestCase):
    def check_plan(self, dam, worths):
        plan = best_plan(dam, worths)
        self.assertEqual(len(levels(dam, plan)), len(plan))
        self.assertEqual(plan_worth(dam, worths, plan), (best_worth(dam, worths), 1))
        self.assertIs(shows_best(dam, worths, plan), True)

    def test_example(self):
        self.assertEqual(best_worth(DAM, WORTHS), 28)
        self.check_plan(DAM, WORTHS)

    def test_against_all_levels(self):
        for dam, worths in many_worths(500, 41):
            with self.subTest(dam=dam, worths=worths):
                expected = best_another_way(dam, worths)
                if expected is None:
                    self.assertFalse(has_plan(dam))
                    for function in (best_worth, best_plan):
                        self.assertEqual(error_of(function, dam, worths), ("NoPlan", {}))
                    self.assertEqual(error_of(shows_best, dam, worths, None), ("NoPlan", {}))
                else:
                    found = best_worth(dam, worths)
                    self.assertEqual((type(found), found), (int, expected))
                    self.check_plan(dam, worths)

    def test_against_all_plans_of_halves(self):
        dice = random.Random(42)
        for _ in range(60):
            capacity = dice.randint(0, 3)
            dam = (capacity, dice.randint(0, capacity), dice.randint(0, capacity), (dice.randint(0, 4), 1, 2))
            worths = some_worths(3, dice, 3)
            plans = half_plans(dam)
            if plans:
                with self.subTest(dam=dam, worths=worths):
                    best = max(sum(map(worth_of, worths, plan)) for plan in plans)
                    self.assertEqual(best_worth(dam, worths), best)

    def test_edges(self):
        self.assertEqual(best_worth((0, 0, 0, (5,)), ((),)), 0)
        self.assertEqual(best_worth((0, 0, 0, (5,)), (((2, 9), (2, 4), (2, 1)),)), 27)
        self.assertEqual(best_worth((0, 0, 0, (5, 0)), ((), ((9, 9),))), 0)
        self.assertEqual(best_worth((3, 0, 0, (5, 0)), ((), ((9, 9),))), 27)
        self.assertEqual(best_worth((3, 0, 2, (5, 0)), ((), ((9, 9),))), 9)
        full = (((1000, 1000),),) * 12
        self.assertEqual(best_worth((1000, 1000, 0, (1000,) * 12), full), 12 * 10 ** 6)
        self.assertEqual(best_worth((1000, 1000, 1000, (0,) * 12), full), 0)

    def test_an_end_that_can_just_be_held(self):
        for dam in JUST_PLAN_DAMS:
            with self.subTest(dam):
                expected = best_another_way(dam, WORTHS)
                self.assertEqual(best_worth(dam, WORTHS), expected)
                self.check_plan(dam, WORTHS)

    def test_wrong_arguments(self):
        for function, args in ((best_worth, ()), (best_plan, ()), (shows_best, (None,))):
            check_worths_refused(self, function, args)


class ShowsBestTest(unittest.TestCase):
    def check_all(self, dam, worths):
        plans = half_plans(dam)
        best = max(sum(map(worth_of, worths, plan)) for plan in plans)
        # No plan of tenths is among the halves.
        right, others = [], [value for value in BAD_PLANS if value != ((0, 1), (19, 10))]
        for plan in plans:
            value = ratios(plan)
            (right if sum(map(worth_of, worths, plan)) == best else others).append(value)
        for value in right[:3]:
            (top, bottom), *rest = value
            others.extend((
                list(value), value + ((0, 1),), value[1:], ((2 * top, 2 * bottom), *rest), ([top, bottom], *rest),
                ((-top, -bottom), *rest), (top, *rest), ((True, bottom), *rest), ((top, True), *rest),
                ((top + 1000, bottom), *rest), ((top - 1000, bottom), *rest), dict(enumerate(value)), str(value),
            ))
        others = [value for value in others if repr(value) not in set(map(repr, right))]
        check_shows(self, shows_best, (dam, worths), right, others)

    def test_all_plans_of_halves(self):
        self.check_all((2, 1, 0, (1, 2)), (((1, 3),), ((2, 3), (1, 1))))
        self.check_all((2, 1, 1, (1, 2)), (((1, 3),), ()))
        self.check_all((3, 3, 0, (0,)), (((1, 4), (1, 2)),))
        self.check_all((2, 1, 2, (1, 0)), (((1, 4), (1, 2)), ((3, 9),)))
        self.check_all((0, 0, 0, (1, 0)), (((1, 4), (1, 2)), ((3, 9),)))
        self.check_all((1, 0, 0, (1, 1)), ((), ()))

    def test_a_best_plan_of_thirds(self):
        worths = (((2, 3),), ((2, 3),))
        self.assertIs(shows_best((2, 2, 0, (0, 0)), worths, ((1, 3), (5, 3))), True)
        self.assertIs(shows_best((2, 2, 0, (0, 0)), worths, ((1, 3), (4, 3))), False)


if __name__ == "__main__":
    unittest.main()
