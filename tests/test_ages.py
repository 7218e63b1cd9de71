"""Point 26: ages of water."""

import random
import unittest
from fractions import Fraction

from damworks.ages import ages, oldest
from tests.helpers import (
    BAD_DAMS, DAM, JUST_PLAN_DAMS, KINDS, NO_PLAN_DAMS, check_refused, error_of, fractions, ratios, some_dams, some_plan,
)
from tests.test_dams import BAD_PLANS

PLAN = ((0, 1), (5, 2))


def ages_another_way(dam, plan):
    """Both answers, sixth by sixth of a unit of water: the age of each is counted on in each month."""
    _, start, _, inflows = dam
    water = [1] * (6 * start)
    means, held = [], []
    for inflow, release in zip(inflows, plan):
        water = water + [0] * (6 * inflow)
        count = release * 6
        assert count.denominator == 1, plan
        leaving, water = water[:int(count)], water[int(count):]
        means.append(Fraction(sum(leaving), len(leaving)) if leaving else Fraction(0))
        held.append(max(water) if water else None)
        water = [age + 1 for age in water]
    return means, held


class AgesTest(unittest.TestCase):
    def check(self, dam, plan):
        """Both answers, against all water followed; plan is of fractions."""
        found = (fractions(ages(dam, ratios(plan))), oldest(dam, ratios(plan)))
        self.assertIsInstance(found[1], tuple)
        means, held = ages_another_way(dam, plan)
        self.assertEqual((found[0], list(found[1])), (means, held))
        for age in found[1]:
            self.assertTrue(age is None or type(age) is int)
        return found

    def test_example(self):
        dam, plan = (5, 2, 0, (1, 1)), ((1, 1), (2, 1))
        self.assertEqual(ages(dam, plan), ((1, 1), (3, 2)))
        self.assertEqual(oldest(dam, plan), (1, 0))

    def test_against_all_water_followed(self):
        dice = random.Random(261)
        checked = 0
        for dam in some_dams(800, 261):
            if dam[0] <= 20:
                plan = some_plan(dam, dice)
                if plan is not None:
                    checked += 1
                    with self.subTest(dam=dam, plan=plan):
                        self.check(dam, plan)
        self.assertGreater(checked, 400)

    def test_edges(self):
        half = Fraction(1, 2)
        self.assertEqual(self.check((0, 0, 0, (0,)), [half * 0]), ([0], (None,)))
        self.assertEqual(self.check((5, 2, 0, (0,)), [Fraction(0)]), ([0], (1,)))
        self.assertEqual(self.check((5, 2, 0, (0,)), [Fraction(2)]), ([1], (None,)))
        self.assertEqual(self.check((5, 0, 0, (2,)), [half]), ([0], (0,)))
        self.assertEqual(self.check((5, 1, 0, (1,)), [3 * half]), ([Fraction(2, 3)], (0,)))
        self.assertEqual(self.check((5, 1, 0, (1,)), [half]), ([1], (1,)))
        self.assertEqual(self.check((5, 5, 5, (0,) * 12), [Fraction(0)] * 12), ([0] * 12, tuple(range(1, 13))))
        self.assertEqual(self.check((5, 5, 0, (0,) * 12), [Fraction(0)] * 11 + [Fraction(5)]),
                         ([0] * 11 + [12], tuple(range(1, 12)) + (None,)))
        self.assertEqual(self.check((0, 0, 0, (3,) * 12), [Fraction(3)] * 12), ([0] * 12, (None,) * 12))
        self.assertEqual(self.check((9, 0, 0, (0, 4, 0, 0)), [0 * half, half, half, 3 + 0 * half]),
                         ([0, 0, 1, 2], (None, 0, 1, None)))

    def test_all_that_comes_at_once(self):
        full = (1000, 1000, 0, (1000,) * 12)
        self.assertEqual(ages(full, ((1000, 1),) * 12), ((1, 1),) * 12)
        self.assertEqual(oldest(full, ((1000, 1),) * 12), (0,) * 12)
        self.assertEqual(ages(full, ((2000, 1),) + ((1000, 1),) * 11), ((1, 2),) + ((0, 1),) * 11)

    def test_thin_ratios(self):
        big = 10 ** 30
        self.assertEqual(ages((1, 1, 0, (0, 1)), ((1, big), (1, 1))), ((1, 1), (big - 1, big // 2)))
        self.assertEqual(oldest((1, 1, 0, (0, 1)), ((big - 1, big), (1, big))), (1, 0))
        self.assertEqual(oldest((1, 1, 0, (0, 0)), ((big - 1, big), (1, big))), (1, None))

    def test_an_end_that_can_just_be_held(self):
        for dam in JUST_PLAN_DAMS:
            if dam[0] <= 20:
                held, plan = dam[1], []
                for inflow in dam[3]:
                    plan.append(Fraction(max(0, held + inflow - dam[0])))
                    held += inflow - plan[-1]
                with self.subTest(dam):
                    self.check(dam, plan)

    def test_wrong_arguments(self):
        for function in (ages, oldest):
            check_refused(self, function, (DAM, PLAN), 0, "BadDam", BAD_DAMS + KINDS)
            check_refused(self, function, (DAM, PLAN), 1, "BadPlan", BAD_PLANS)
            for dam in NO_PLAN_DAMS:
                self.assertEqual(error_of(function, dam, ((0, 1),) * len(dam[3])), ("BadPlan", {}))


if __name__ == "__main__":
    unittest.main()
