"""Point 20: salt in the water of a dam."""

import random
import unittest
from fractions import Fraction

from damworks.salts import salt_left, salt_run
from tests.helpers import (
    BAD_DAMS, BAD_INFLOWS, DAM, JUST_PLAN_DAMS, KINDS, NO_PLAN_DAMS, check_refused, error_of, fraction, fractions,
    ratios, some_dams, some_plan,
)
from tests.test_dams import BAD_PLANS

PLAN = ((0, 1), (5, 2))
SALTS = (3, 0)
ARGS = (DAM, PLAN, SALTS, 6)

BAD_SALTS = tuple(value for value in KINDS if repr(value) != "(1, 2)") + BAD_INFLOWS + (
    (3,), (3, 4, 5), (3, 1001), (-1, 0), ((3, 1), (0, 1)),
)
BAD_FIRST = tuple(value for value in KINDS if repr(value) not in ("0", "1", "7")) + (-5, 1001, "6", (6,), (6, 1))


def salt_another_way(dam, plan, salts, first):
    """The salt in a unit of each month, and what is left, the water of each inflow followed apart."""
    _, start, _, inflows = dam
    waters = [Fraction(start)]
    kinds = [first]
    mixed = []
    for inflow, salt, release in zip(inflows, salts, plan):
        waters.append(Fraction(inflow))
        kinds.append(salt)
        there = sum(waters)
        if there == 0:
            mixed.append(Fraction(0))
            continue
        mixed.append(sum(water * kind for water, kind in zip(waters, kinds)) / there)
        waters = [water * (there - release) / there for water in waters]
    return mixed, sum(water * kind for water, kind in zip(waters, kinds))


class SaltTest(unittest.TestCase):
    def check(self, dam, plan, salts, first):
        """Both answers, against the other way and against all salt that comes; plan is of fractions."""
        run = fractions(salt_run(dam, ratios(plan), salts, first))
        left = fraction(salt_left(dam, ratios(plan), salts, first))
        self.assertEqual((run, left), salt_another_way(dam, plan, salts, first))
        comes = dam[1] * first + sum(inflow * salt for inflow, salt in zip(dam[3], salts))
        leaves = sum(salt * release for salt, release in zip(run, plan))
        self.assertEqual(leaves + left, comes)
        return run, left

    def test_examples(self):
        dam, plan = (5, 2, 0, (1, 1)), ((1, 1), (0, 1))
        self.assertEqual(salt_run(dam, plan, (3, 0), 6), ((5, 1), (10, 3)))
        self.assertEqual(salt_left(dam, plan, (3, 0), 6), (10, 1))

    def test_against_water_followed_apart(self):
        dice = random.Random(201)
        checked = 0
        for dam in some_dams(700, 201):
            plan = some_plan(dam, dice)
            if plan is not None:
                checked += 1
                salts = tuple(dice.choice((0, 1, dice.randint(0, 1000))) for _ in dam[3])
                with self.subTest(dam=dam, plan=plan, salts=salts):
                    self.check(dam, plan, salts, dice.choice((0, 1000, dice.randint(0, 1000))))
        self.assertGreater(checked, 400)

    def test_edges(self):
        self.assertEqual(self.check((0, 0, 0, (0,)), (0,), (1000,), 1000), ([0], 0))
        self.assertEqual(self.check((0, 0, 0, (4,)), (4,), (7,), 1000), ([7], 0))
        self.assertEqual(self.check((9, 4, 0, (0,)), (1,), (1000,), 7), ([7], 21))
        self.assertEqual(self.check((9, 4, 0, (0,)), (4,), (1000,), 7), ([7], 0))
        # Nothing is left behind the first month, and no water comes in the second one.
        self.assertEqual(self.check((9, 4, 0, (2, 0, 1)), (6, 0, 0), (1, 9, 5), 7), ([5, 0, 5], 5))
        self.assertEqual(self.check((9, 0, 0, (0, 0, 1)), (0, 0, 1), (1, 9, 5), 7), ([0, 0, 5], 0))
        full = (1000, 1000, 1000, (1000,) * 12)
        self.assertEqual(self.check(full, (1000,) * 12, (1000,) * 12, 1000), ([1000] * 12, 1000000))
        thinned = self.check((1, 1, 0, (1,) * 12), (1,) * 12, (0,) * 12, 1)[0]
        self.assertEqual(thinned[11], Fraction(1, 2 ** 12))

    def test_an_end_that_can_just_be_held(self):
        for dam in JUST_PLAN_DAMS:
            held, plan = dam[1], []
            for inflow in dam[3]:
                plan.append(max(0, held + inflow - dam[0]))
                held += inflow - plan[-1]
            with self.subTest(dam):
                self.check(dam, plan, tuple(range(5, 5 + len(plan))), 3)

    def test_wrong_arguments(self):
        for function in (salt_run, salt_left):
            check_refused(self, function, ARGS, 0, "BadDam", BAD_DAMS)
            check_refused(self, function, ARGS, 1, "BadPlan", BAD_PLANS)
            check_refused(self, function, ARGS, 2, "BadSalts", BAD_SALTS)
            check_refused(self, function, ARGS, 3, "BadSalt", BAD_FIRST)
            for first in (0, 1000):
                self.assertIsNone(error_of(function, DAM, PLAN, (0, 1000), first))

    def test_a_dam_without_a_plan(self):
        for dam in NO_PLAN_DAMS:
            for function in (salt_run, salt_left):
                self.assertEqual(error_of(function, dam, ((0, 1),) * len(dam[3]), None, None), ("BadPlan", {}))


if __name__ == "__main__":
    unittest.main()
