"""Points 18 and 21: flood curves, fill curves, yield curves, spells."""

import random
import unittest

from damworks.curves import fill_curve, flood_curve, spells, yield_curve
from damworks.yields import firm_yield
from tests.helpers import (
    BAD_DAMS, BAD_DEMANDS, BAD_INFLOWS, DAM, KINDS, NO_PLAN_DAMS, check_refused, gives, some_dams, some_demands,
)

BAD_CAPACITIES = tuple(value for value in KINDS if repr(value) not in ("0", "1", "7")) + ((5,), "7", 1001)
BAD_MOSTS = BAD_CAPACITIES + (61, 100)


def keeps(capacity, outlet, held, inflows):
    """Whether from a level on nothing has to leave but by the outlet, which lets through what it can."""
    for inflow in inflows:
        held = max(0, held + inflow - outlet)
        if held > capacity:
            return False
    return held <= capacity


def flood_another_way(capacity, outlet, inflows):
    """The flood curve by trying every level."""
    curve = []
    for month in range(len(inflows) + 1):
        right = [held for held in range(capacity + 1) if keeps(capacity, outlet, held, inflows[month:])]
        curve.append(max(right, default=None))
    return tuple(curve)


def fill_another_way(dam, demands):
    """The fill curve by trying every level."""
    capacity, _, end, inflows = dam
    curve = []
    for month in range(len(inflows) + 1):
        right = [
            held for held in range(capacity + 1)
            if gives((capacity, held, end, inflows[month:]), demands[month:], end)
        ]
        curve.append(min(right, default=None))
    return tuple(curve)


class FloodTest(unittest.TestCase):
    def test_example(self):
        self.assertEqual(flood_curve(5, 1, (3, 4)), (0, 2, 5))

    def test_against_every_level(self):
        dice = random.Random(131)
        nones = 0
        for _ in range(800):
            capacity, outlet = dice.choice((0, 1, 3, 8, 20)), dice.choice((0, 1, 2, 5, 9))
            inflows = tuple(dice.randint(0, dice.choice((2, 9))) for _ in range(dice.choice((1, 2, 3, 5, 12))))
            with self.subTest(capacity=capacity, outlet=outlet, inflows=inflows):
                expected = flood_another_way(capacity, outlet, inflows)
                nones += None in expected
                self.assertEqual(flood_curve(capacity, outlet, inflows), expected)
        self.assertTrue(100 < nones < 700)

    def test_edges(self):
        self.assertEqual(flood_curve(0, 0, (0,)), (0, 0))
        self.assertEqual(flood_curve(0, 0, (1,)), (None, 0))
        self.assertEqual(flood_curve(9, 0, (10, 0)), (None, 9, 9))
        self.assertEqual(flood_curve(9, 0, (9, 0)), (0, 9, 9))
        # Behind a level of None no room before it helps.
        self.assertEqual(flood_curve(9, 5, (0, 15)), (None, None, 9))
        self.assertEqual(flood_curve(9, 5, (0, 14)), (5, 0, 9))
        self.assertEqual(flood_curve(1000, 1000, (1000,) * 12), (1000,) * 13)
        self.assertEqual(flood_curve(1000, 0, (0,) * 12), (1000,) * 13)

    def test_wrong_arguments(self):
        args = (5, 1, (3, 4))
        check_refused(self, flood_curve, args, 0, "BadCapacity", BAD_CAPACITIES)
        check_refused(self, flood_curve, args, 1, "BadCapacity", BAD_CAPACITIES)
        check_refused(self, flood_curve, args, 2, "BadInflows", BAD_INFLOWS)


class FillTest(unittest.TestCase):
    def test_example(self):
        self.assertEqual(fill_curve((10, 5, 0, (3, 4)), (9, 6)), (8, 2, 0))

    def test_against_every_level(self):
        nones = 0
        for number, dam in enumerate(some_dams(900, 132)):
            if dam[0] <= 20:
                demands = some_demands(dam, number)
                with self.subTest(dam=dam, demands=demands):
                    expected = fill_another_way(dam, demands)
                    nones += None in expected
                    self.assertEqual(fill_curve(dam, demands), expected)
        self.assertGreater(nones, 100)

    def test_edges(self):
        self.assertEqual(fill_curve((0, 0, 0, (0,)), (0,)), (0, 0))
        self.assertEqual(fill_curve((0, 0, 0, (0,)), (1,)), (None, 0))
        self.assertEqual(fill_curve((9, 0, 9, (0, 0)), (0, 0)), (9, 9, 9))
        self.assertEqual(fill_curve((9, 0, 9, (0, 0)), (0, 1)), (None, None, 9))
        self.assertEqual(fill_curve((9, 0, 9, (1000, 0)), (0, 1)), (None, None, 9))
        self.assertEqual(fill_curve((9, 0, 0, (1000, 0)), (0, 9)), (0, 9, 0))
        self.assertEqual(fill_curve((1000, 0, 0, (0,) * 12), (1000,) + (0,) * 11), (1000,) + (0,) * 12)

    def test_start_and_no_plan_do_not_matter(self):
        for capacity, start, end, inflows in NO_PLAN_DAMS:
            expected = fill_another_way((capacity, start, end, inflows), (0, 1))
            for other in (start, 0, capacity):
                self.assertEqual(fill_curve((capacity, other, end, inflows), (0, 1)), expected)

    def test_wrong_arguments(self):
        check_refused(self, fill_curve, (DAM, (9, 6)), 0, "BadDam", BAD_DAMS)
        check_refused(self, fill_curve, (DAM, (9, 6)), 1, "BadDemands", BAD_DEMANDS)
        check_refused(self, fill_curve, (NO_PLAN_DAMS[0], (9, 6)), 1, "BadDemands", BAD_DEMANDS)


class YieldCurveTest(unittest.TestCase):
    def test_example(self):
        self.assertEqual(yield_curve((1, 5), 2), ((1, 1), (2, 1), (3, 1)))

    def test_against_each_full_dam(self):
        dice = random.Random(133)
        for _ in range(40):
            inflows = tuple(dice.randint(0, 30) for _ in range(dice.choice((1, 2, 5, 12))))
            most = dice.choice((0, 1, 7, 60))
            with self.subTest(inflows=inflows, most=most):
                expected = tuple(firm_yield((capacity, capacity, 0, inflows)) for capacity in range(most + 1))
                self.assertEqual(yield_curve(inflows, most), expected)

    def test_edges(self):
        self.assertEqual(yield_curve((0,), 0), ((0, 1),))
        self.assertEqual(yield_curve((4, 0), 1), ((0, 1), (1, 1)))
        self.assertEqual(yield_curve((0, 0, 0), 4), ((0, 1), (1, 3), (2, 3), (1, 1), (4, 3)))
        self.assertEqual(len(yield_curve((1000,) * 12, 60)), 61)

    def test_wrong_arguments(self):
        check_refused(self, yield_curve, ((1, 5), 2), 0, "BadInflows", BAD_INFLOWS)
        check_refused(self, yield_curve, ((1, 5), 2), 1, "BadCapacity", BAD_MOSTS)


def spells_another_way(inflows, level):
    """The spells by all rows of months."""
    months = len(inflows)
    found = []
    for first in range(months):
        for last in range(first, months):
            is_dry = all(inflow < level for inflow in inflows[first:last + 1])
            is_longest = (first == 0 or inflows[first - 1] >= level) and (
                last == months - 1 or inflows[last + 1] >= level)
            if is_dry and is_longest:
                found.append((first, last, (last - first + 1) * level - sum(inflows[first:last + 1])))
    return tuple(found)


class SpellsTest(unittest.TestCase):
    def test_example(self):
        self.assertEqual(spells((1, 5, 0, 0), 2), ((0, 0, 1), (2, 3, 4)))

    def test_against_all_rows(self):
        dice = random.Random(134)
        for _ in range(600):
            inflows = tuple(dice.randint(0, 5) for _ in range(dice.choice((1, 2, 3, 6, 12))))
            for level in range(7):
                with self.subTest(inflows=inflows, level=level):
                    self.assertEqual(spells(inflows, level), spells_another_way(inflows, level))

    def test_edges(self):
        self.assertEqual(spells((0, 0), 0), ())
        self.assertEqual(spells((3,), 3), ())
        self.assertEqual(spells((3,), 4), ((0, 0, 1),))
        self.assertEqual(spells((0, 9, 0), 1), ((0, 0, 1), (2, 2, 1)))
        self.assertEqual(spells((9, 0, 9), 1), ((1, 1, 1),))
        self.assertEqual(spells((0,) * 12, 1000), ((0, 11, 12000),))
        self.assertEqual(spells((1000,) * 12, 1000), ())

    def test_wrong_arguments(self):
        check_refused(self, spells, ((1, 5, 0, 0), 2), 0, "BadInflows", BAD_INFLOWS)
        check_refused(self, spells, ((1, 5, 0, 0), 2), 1, "BadLevel", BAD_CAPACITIES)


if __name__ == "__main__":
    unittest.main()
