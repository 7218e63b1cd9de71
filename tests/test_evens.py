"""Point 10: even plans, least peaks, evener numbers."""

import itertools
import random
import unittest
from fractions import Fraction

from damworks.dams import levels
from damworks.evens import even_plan, is_evener, least_peak, peak_paper, shows_even, shows_peak
from tests.helpers import (
    BAD_DAMS, BAD_RATIOS, DAM, JUST_PLAN_DAMS, KINDS, NO_PLAN_DAMS, check_refused, check_shows, error_of, fraction,
    fractions, half_plans, has_plan, near_pairs, near_ratios, ratios, some_dams, windows,
)

LITTLE = Fraction(1, 10 ** 9)
SMALL_DAMS = (
    DAM, (4, 0, 0, (9, 0, 3)), (4, 4, 0, (3, 9)), (0, 0, 0, (3, 0, 5)), (2, 1, 1, (1, 3, 0)), (3, 3, 3, (0, 2, 1)),
    (1, 0, 0, (0, 0, 2)), (5, 5, 0, (0,)), (2, 2, 0, (0, 0, 0)), (1, 1, 0, (0, 0, 0)),
)


def words_of_even(dam, plan):
    """Whether a plan is even by the words of the point."""
    held = levels(dam, ratios(plan))
    if held[-1] != (dam[2], 1):
        return False
    for month in range(1, len(plan)):
        if plan[month] > plan[month - 1] and held[month - 1] != (0, 1):
            return False
        if plan[month] < plan[month - 1] and held[month - 1] != (dam[0], 1):
            return False
    return True


def can_hold_under(dam, peak):
    """Whether there is a plan whose releases are all at most the peak, by what can be held behind each month."""
    capacity, start, end, inflows = dam
    least = most = Fraction(start)
    for inflow in inflows:
        least = max(Fraction(0), least + inflow - peak)
        most = min(Fraction(capacity), most + inflow)
        if least > capacity:
            return False
    return most >= end


def right_papers(dam, peak):
    """All values that are papers of a peak, by the words of the point."""
    if peak == 0:
        return [None]
    capacity, start, _, inflows = dam
    return [
        (first, last) for first, last in windows(len(inflows))
        if sum(inflows[first:last + 1]) + (start if first == 0 else 0) - capacity == peak * (last - first + 1)
    ]


class EvenPlanTest(unittest.TestCase):
    def test_examples(self):
        self.assertEqual(even_plan((10, 5, 0, (3, 4))), ((6, 1), (6, 1)))
        self.assertEqual(even_plan((4, 0, 0, (9, 0, 3))), ((5, 1), (7, 2), (7, 2)))

    def test_the_words_of_the_point(self):
        for dam in some_dams(800, 61):
            with self.subTest(dam):
                if has_plan(dam):
                    self.assertTrue(words_of_even(dam, fractions(even_plan(dam))))
                    self.assertIs(shows_even(dam, even_plan(dam)), True)
                else:
                    for args in ((even_plan, dam), (shows_even, dam, None), (shows_even, dam, ((0, 1),))):
                        self.assertEqual(error_of(*args), ("NoPlan", {}))

    def test_least_squares_and_peaks(self):
        for dam in SMALL_DAMS:
            even = fractions(even_plan(dam))
            squares = sum(release ** 2 for release in even)
            for plan in half_plans(dam):
                if sum(plan) == sum(even):
                    with self.subTest(dam=dam, plan=plan):
                        others = sum(release ** 2 for release in plan)
                        self.assertTrue(others > squares or list(plan) == even)
                        self.assertGreaterEqual(max(plan), max(even))
                        self.assertLessEqual(min(plan), min(even))
                        self.assertIs(is_evener(ratios(even), ratios(plan)), True)

    def test_edges(self):
        self.assertEqual(even_plan((0, 0, 0, (7,))), ((7, 1),))
        self.assertEqual(even_plan((9, 4, 2, (7,))), ((9, 1),))
        self.assertEqual(even_plan((0, 0, 0, (3, 0, 5))), ((3, 1), (0, 1), (5, 1)))
        self.assertEqual(even_plan((1000, 5, 0, (0,) * 12)), ((5, 12),) * 12)
        self.assertEqual(even_plan((5, 0, 5, (0, 9, 0))), ((0, 1), (4, 1), (0, 1)))
        self.assertEqual(even_plan((1000, 1000, 1000, (1000,) * 12)), ((1000, 1),) * 12)

    def test_an_end_that_can_just_be_held(self):
        for dam in JUST_PLAN_DAMS:
            with self.subTest(dam):
                self.assertTrue(words_of_even(dam, fractions(even_plan(dam))))
                self.assertEqual(even_plan(dam)[-1], (0, 1))

    def test_shows(self):
        for dam in SMALL_DAMS + JUST_PLAN_DAMS:
            right = [even_plan(dam)]
            others = [ratios(plan) for plan in half_plans(dam)] if dam[0] < 10 else []
            (top, bottom), *rest = right[0]
            others.extend(near_ratios(right[0]))
            others.extend((((top + bottom, bottom), *rest), (*rest, (top, bottom))))
            check_shows(self, shows_even, (dam,), right, others)

    def test_wrong_arguments(self):
        for function, args in ((even_plan, ()), (least_peak, ()), (peak_paper, ()), (shows_even, (None,)),
                               (shows_peak, (None,))):
            check_refused(self, function, (DAM,) + args, 0, "BadDam", BAD_DAMS)
            check_refused(self, function, (DAM,) + args, 0, "NoPlan", NO_PLAN_DAMS)
        for function in (even_plan, least_peak, peak_paper):
            check_refused(self, function, (DAM,), 0, "BadDam", KINDS)


class PeakTest(unittest.TestCase):
    def test_example(self):
        self.assertEqual(least_peak((4, 4, 0, (3, 9))), (6, 1))

    def test_holding_under_the_peak_and_a_little_less(self):
        zeros = 0
        for dam in some_dams(800, 62):
            with self.subTest(dam):
                if not has_plan(dam):
                    for args in ((least_peak, dam), (peak_paper, dam), (shows_peak, dam, None)):
                        self.assertEqual(error_of(*args), ("NoPlan", {}))
                    continue
                peak = fraction(least_peak(dam))
                self.assertTrue(can_hold_under(dam, peak))
                self.assertIn(peak_paper(dam), right_papers(dam, peak))
                self.assertIs(shows_peak(dam, peak_paper(dam)), True)
                zeros += peak == 0
                self.assertGreaterEqual(peak, 0)
                if peak > 0:
                    self.assertFalse(can_hold_under(dam, peak - LITTLE))
        self.assertGreater(zeros, 50)

    def test_against_all_plans(self):
        for dam in SMALL_DAMS:
            peak = fraction(least_peak(dam))
            most = min(max(plan) for plan in half_plans(dam))
            self.assertTrue(peak <= most < peak + Fraction(1, 2), dam)

    def test_edges(self):
        self.assertEqual(least_peak((0, 0, 0, (7,))), (7, 1))
        self.assertEqual(least_peak((0, 0, 0, (0,))), (0, 1))
        self.assertEqual(least_peak((10, 5, 0, (5,))), (0, 1))
        self.assertEqual(least_peak((10, 5, 0, (6,))), (1, 1))
        self.assertEqual(least_peak((0, 0, 0, (0, 3, 4, 5))), (5, 1))
        self.assertEqual(least_peak((1, 1, 0, (1,) + (0,) * 10 + (3,))), (2, 1))
        self.assertEqual(least_peak((1000, 1000, 0, (1000,) * 12)), (1000, 1))
        self.assertEqual(least_peak((1000, 0, 0, (1000,) * 12)), (2750, 3))
        self.assertIsNone(peak_paper((10, 5, 0, (5,))))
        self.assertEqual(peak_paper((10, 5, 0, (6,))), (0, 0))
        for dam in JUST_PLAN_DAMS:
            self.assertEqual(least_peak(dam), (0, 1))

    def test_shows(self):
        for dam in SMALL_DAMS + JUST_PLAN_DAMS + ((2, 2, 0, (3, 3, 3, 3)), (1, 0, 0, (2, 3, 2, 2)), (9, 9, 0, (0, 1))):
            right = right_papers(dam, fraction(least_peak(dam)))
            sides = range(-1, len(dam[3]) + 2)
            others = list(itertools.product(sides, sides))
            for pair in right:
                others.extend(near_pairs(pair) if pair is not None else ())
            check_shows(self, shows_peak, (dam,), right, others)


BAD_NUMBERS = tuple(value for value in KINDS if value not in (((0, 1), (1, 1)), ((1, 1),))) + tuple(
    ((1, 1), one) for one in BAD_RATIOS
) + (
    [(1, 1), (3, 1)], ((1, 1),) * 13, ((1000001, 1), (0, 1)), ((-1000001, 1), (0, 1)), ((1, 1000001), (0, 1)),
    ((0, 1), (10 ** 12 + 1, 10 ** 6)), ((0, 1), (-10 ** 12 - 1, 10 ** 6)),
)


def is_evener_another_way(one, other):
    """Whether both have the same sum and the first one has no more above any level."""
    return sum(one) == sum(other) and all(
        sum(max(number - level, 0) for number in one) <= sum(max(number - level, 0) for number in other)
        for level in one + other
    )


class EvenerTest(unittest.TestCase):
    def test_example(self):
        self.assertIs(is_evener(((1, 1), (3, 1)), ((0, 1), (4, 1))), True)
        self.assertIs(is_evener(((0, 1), (4, 1)), ((1, 1), (3, 1))), False)

    def test_against_what_is_above_each_level(self):
        dice = random.Random(63)
        found = {True: 0, False: 0}
        for _ in range(3000):
            count = dice.choice((1, 2, 3, 4))
            one = [Fraction(dice.randint(-4, 4), dice.choice((1, 2, 3))) for _ in range(count)]
            other = [Fraction(dice.randint(-6, 6), dice.choice((1, 2, 3))) for _ in range(count)]
            if dice.randint(0, 5):
                other[-1] = sum(one) - sum(other[:-1])
            expected = is_evener_another_way(one, other)
            found[expected] += 1
            with self.subTest(one=one, other=other):
                self.assertIs(is_evener(ratios(one), ratios(other)), expected)
        self.assertGreater(min(found.values()), 300)

    def test_edges(self):
        self.assertIs(is_evener(((5, 1),), ((5, 1),)), True)
        self.assertIs(is_evener(((5, 1),), ((6, 1),)), False)
        self.assertIs(is_evener(((1, 2),) * 12, ((0, 1), (1, 1)) * 6), True)
        self.assertIs(is_evener(((0, 1), (1, 1)) * 6, ((1, 1), (0, 1)) * 6), True)
        self.assertIs(is_evener(((1, 1), (1, 1), (4, 1)), ((0, 1), (3, 1), (3, 1))), False)
        self.assertIs(is_evener(((0, 1), (3, 1), (3, 1)), ((1, 1), (1, 1), (4, 1))), False)
        far = ((10 ** 6, 1), (-10 ** 6, 1), (1, 10 ** 6), (10 ** 12 - 1, 10 ** 6))
        self.assertIs(is_evener(far, far[::-1]), True)

    def test_wrong_arguments(self):
        right = ((1, 1), (3, 1))
        check_refused(self, is_evener, (right, right), 0, "BadNumbers", BAD_NUMBERS)
        check_refused(self, is_evener, (right, right), 1, "BadNumbers", BAD_NUMBERS + (right[:1], right + right[:1]))
        for numbers in ((), right[:1] * 13):
            self.assertEqual(error_of(is_evener, numbers, numbers), ("BadNumbers", {}))
        for value in BAD_RATIOS:
            self.assertEqual(error_of(is_evener, (value,), ((1, 1),)), ("BadNumbers", {}))
            self.assertEqual(error_of(is_evener, ((1, 1),), (value,)), ("BadNumbers", {}))


if __name__ == "__main__":
    unittest.main()
