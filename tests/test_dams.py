"""Points 1 to 3: dams, plans, demands, levels, run."""

import itertools
import unittest
from fractions import Fraction

from damworks.dams import levels, run
from tests.helpers import BAD_DAMS, BAD_DEMANDS, DAM, KINDS, check_refused, error_of

PLAN = ((0, 1), (5, 2))

BAD_PLANS = tuple(value for value in KINDS if value != ((0, 1), (1, 1))) + (
    ((0, 1),), ((0, 1), (0, 1), (0, 1)), [(0, 1), (5, 2)], ([0, 1], (5, 2)), ((0, 1), [5, 2]), (0, 2),
    ((0, 1), (10, 4)), ((0, 2), (5, 2)), ((0, 1), (5, 0)), ((0, 1), (-5, -2)), ((0, 1), (5, -2)), ((0, 1), (-1, 1)),
    ((0, 1), (True, 1)), ((0, 1), (1, True)), ((False, 1), (5, 2)), ((0, 1), (5, 2, 1)), ((0, 1), (5,)),
    ((0, 1), ("5", 2)), ((0, 1), None), ((0, 1), (None, 1)), ((0, 1), "52"), ((0, 1), {5: 2}), ((0, 1), ((5, 2), 1)),
    ((0, 1), (1, 0)), ((1, 0), (5, 2)), ((0, -1), (5, 2)), ((-1, 1), (9, 2)), ((1, -1), (9, 2)), ((-1, -1), (5, 2)),
    # The first month's water is used up, the second one's is more than there is.
    ((8, 1), (5, 1)), ((17, 2), (0, 1)), ((81, 10), (0, 1)), ((0, 1), (13, 1)), ((0, 1), (121, 10)),
    # More than the capacity is held behind the last month.
    ((0, 1), (0, 1)), ((0, 1), (19, 10)),
)


def levels_another_way(dam, plan):
    """What is held, by fractions; None if that is no plan."""
    capacity, start, end, inflows = dam
    held, found = Fraction(start), []
    for inflow, (top, bottom) in zip(inflows, plan):
        held += inflow - Fraction(top, bottom)
        if held < 0 or held > capacity:
            return None
        found.append((held.numerator, held.denominator))
    return tuple(found) if held >= end else None


class LevelsTest(unittest.TestCase):
    def test_example(self):
        self.assertEqual(levels(DAM, PLAN), ((8, 1), (19, 2)))

    def test_against_fractions(self):
        releases = ((0, 1), (1, 2), (1, 1), (4, 3), (2, 1), (3, 1), (7, 2), (5, 1))
        dams = ((4, 0, 0, (1, 3)), (3, 3, 2, (0, 2)), (0, 0, 0, (2, 1)), (5, 2, 5, (4, 0)), (2, 1, 1, (1, 1)))
        plans = 0
        for dam in dams:
            for plan in itertools.product(releases, repeat=2):
                expected = levels_another_way(dam, plan)
                with self.subTest(dam=dam, plan=plan):
                    if expected is None:
                        self.assertEqual(error_of(levels, dam, plan), ("BadPlan", {}))
                    else:
                        plans += 1
                        self.assertEqual(levels(dam, plan), expected)
        self.assertGreater(plans, 40)

    def test_held_just_at_nothing_and_at_the_capacity(self):
        self.assertEqual(levels(DAM, ((8, 1), (4, 1))), ((0, 1), (0, 1)))
        self.assertEqual(levels(DAM, ((0, 1), (2, 1))), ((8, 1), (10, 1)))
        self.assertEqual(levels((10, 5, 10, (3, 4)), ((0, 1), (2, 1))), ((8, 1), (10, 1)))
        self.assertEqual(levels((10, 5, 4, (3, 4)), ((1, 3), (23, 3))), ((23, 3), (4, 1)))
        self.assertEqual(error_of(levels, (10, 5, 4, (3, 4)), ((1, 3), (31, 4))), ("BadPlan", {}))

    def test_the_capacity_counts_behind_a_month_only(self):
        self.assertEqual(levels((3, 3, 0, (1000,)), ((1000, 1),)), ((3, 1),))

    def test_one_month_and_twelve(self):
        self.assertEqual(levels((1, 1, 1, (0,)), ((0, 1),)), ((1, 1),))
        thirds = levels((1000, 0, 0, (1,) * 12), ((1, 3),) * 12)
        self.assertEqual(thirds[:4], ((2, 3), (4, 3), (2, 1), (8, 3)))
        self.assertEqual(thirds[11], (8, 1))

    def test_a_capacity_of_nothing(self):
        self.assertEqual(levels((0, 0, 0, (3, 0)), ((3, 1), (0, 1))), ((0, 1), (0, 1)))
        self.assertEqual(error_of(levels, (0, 0, 0, (3, 0)), ((2, 1), (1, 1))), ("BadPlan", {}))

    def test_a_bottom_is_positive(self):
        self.assertEqual(levels((0, 0, 0, (0,)), ((0, 1),)), ((0, 1),))
        for release in ((0, -1), (0, 0), (0, 2), (1, 0)):
            self.assertEqual(error_of(levels, (0, 0, 0, (0,)), (release,)), ("BadPlan", {}))

    def test_a_dam_without_a_plan(self):
        self.assertEqual(error_of(levels, (10, 0, 10, (3, 4)), ((0, 1), (0, 1))), ("BadPlan", {}))

    def test_wide_ratios(self):
        big = 10 ** 50
        self.assertEqual(levels((1, 0, 0, (1,)), ((1, big),)), ((big - 1, big),))

    def test_wrong_arguments(self):
        check_refused(self, levels, (DAM, PLAN), 0, "BadDam", BAD_DAMS)
        check_refused(self, levels, (DAM, PLAN), 1, "BadPlan", BAD_PLANS)


def run_another_way(dam, demands):
    """The triples, unit by unit of water."""
    capacity, held, _, inflows = dam
    months = []
    for inflow, demand in zip(inflows, demands):
        held += inflow
        given = spilled = 0
        while given < demand and held > 0:
            given, held = given + 1, held - 1
        while held > capacity:
            spilled, held = spilled + 1, held - 1
        months.append((given, spilled, held))
    return tuple(months)


class RunTest(unittest.TestCase):
    def test_example(self):
        self.assertEqual(run(DAM, (9, 0)), ((8, 0, 0), (0, 0, 4)))

    def test_against_unit_by_unit(self):
        for capacity, first, second, one, two in itertools.product(range(4), range(5), (0, 2, 7), range(6), (0, 3)):
            for start in range(capacity + 1):
                dam = (capacity, start, capacity, (first, second))
                with self.subTest(dam=dam, demands=(one, two)):
                    self.assertEqual(run(dam, (one, two)), run_another_way(dam, (one, two)))

    def test_the_demand_is_given_before_the_rest_is_spilled(self):
        self.assertEqual(run((4, 4, 0, (5,)), (3,)), ((3, 2, 4),))

    def test_no_look_at_the_end(self):
        self.assertEqual(run((10, 5, 10, (3, 4)), (8, 4)), ((8, 0, 0), (4, 0, 0)))
        self.assertEqual(run((10, 0, 10, (0,)), (0,)), ((0, 0, 0),))

    def test_one_month_and_twelve(self):
        self.assertEqual(run((0, 0, 0, (0,)), (0,)), ((0, 0, 0),))
        self.assertEqual(run((1000, 1000, 0, (1000,) * 12), (1000,) * 12), ((1000, 0, 1000),) * 12)
        self.assertEqual(run((1000, 1000, 0, (1000,) * 12), (0,) * 12), ((0, 1000, 1000),) * 12)

    def test_wrong_arguments(self):
        check_refused(self, run, (DAM, (9, 0)), 0, "BadDam", BAD_DAMS + KINDS)
        check_refused(self, run, (DAM, (9, 0)), 1, "BadDemands", BAD_DEMANDS)

    def test_all_kinds_as_demands(self):
        for value in KINDS:
            expected = None if repr(value) == "(1, 2)" else ("BadDemands", {})
            with self.subTest(value):
                self.assertEqual(error_of(run, DAM, value), expected)


if __name__ == "__main__":
    unittest.main()
