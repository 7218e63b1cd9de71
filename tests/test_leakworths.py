"""Point 23: leaking dams that earn."""

import itertools
import random
import unittest
from fractions import Fraction

from damworks.leakworths import leak_plan, leak_prices, leak_worth, shows_leak_plan, shows_leak_prices
from damworks.worths import best_worth
from tests.helpers import (
    BAD_DAMS, BAD_WORTHS, DAM, JUST_PLAN_DAMS, NO_PLAN_DAMS, WORTHS, check_refused, check_shows, error_of, fraction,
    fractions, near_ratios, ratios, some_worths,
)
from tests.test_leaks import BAD_LOSSES, run_another_way, some_leaks
from tests.test_markets import worth_of_any

HALF = (1, 2)
THREE = ((1, 3), (1, 2), (1, 1))
FUNCTIONS = (
    (leak_worth, ()), (leak_plan, ()), (leak_prices, ()), (shows_leak_plan, (None,)), (shows_leak_prices, (None,)),
)

# Dams and losses whose ends can just be held after the last loss, and such that cannot.
JUST_HELD = (((10, 10, 5, (0,)), HALF), ((10, 0, 5, (0, 10)), HALF), ((10, 8, 4, (4, 3)), HALF),
             ((100, 100, 99, (0,)), (1, 100)), ((7, 7, 7, (0, 0)), (0, 1)), ((0, 0, 0, (0,)), (99, 100)))
NOT_HELD = (((10, 9, 5, (0,)), HALF), ((10, 8, 4, (4, 2)), HALF), ((10, 10, 6, (1000,)), HALF), ((10, 0, 5, (0, 9)), HALF),
            ((100, 100, 100, (99,)), (1, 100)), ((7, 6, 7, (0, 0)), (0, 1)), ((1, 1, 1, (1000,) * 5), (1, 100)))


def is_plan_another_way(dam, loss, plan):
    """Whether fractions of the right number are a leak plan."""
    capacity, held, end, inflows = dam
    for inflow, release in zip(inflows, plan):
        held += inflow - release
        if release < 0 or not 0 <= held <= capacity:
            return False
        held -= held * loss
    return held >= end


def worth_of_plan(worths, plan):
    """What the releases of a plan, any fractions, are worth."""
    return sum((worth_of_any(pairs, release) for pairs, release in zip(worths, plan)), Fraction(0))


def bound(dam, loss, worths, prices):
    """The bound of prices, by the words of the point."""
    capacity, start, end, inflows = dam
    found = start * prices[0] + sum(inflow * price for inflow, price in zip(inflows, prices))
    for month, pairs in enumerate(worths):
        for amount, price in pairs:
            found += amount * max(0, price - prices[month])
    for month in range(1, len(prices)):
        found += capacity * max(0, prices[month] * (1 - loss) - prices[month - 1])
    return found - Fraction(end) / (1 - loss) * prices[-1]


def some_releases(dam, loss, dice):
    """A random leak plan, or releases that are none."""
    capacity, held, _, inflows = dam
    plan = []
    for inflow in inflows:
        there = held + inflow
        least = max(Fraction(0), there - capacity)
        plan.append(dice.choice((least, there, least + (there - least) * Fraction(dice.randint(0, 6), 6))))
        held = (there - plan[-1]) * (1 - loss)
    return plan


def some_cases(many, seed):
    """Dams of at most five months, with losses and worths."""
    dice = random.Random(seed)
    for dam, loss, given in some_leaks(many, seed):
        if len(dam[3]) <= 5:
            yield dam, loss, given, some_worths(len(dam[3]), dice, dice.choice((1, 5, 20)), 2)


class LeakWorthTest(unittest.TestCase):
    def check_answers(self, dam, loss, worths):
        """A plan and prices that prove each other by the words of the point; the worth is returned."""
        given = ratios([loss])[0]
        best = fraction(leak_worth(dam, given, worths))
        plan, prices = leak_plan(dam, given, worths), leak_prices(dam, given, worths)
        self.assertEqual((len(plan), len(prices)), (len(worths), len(worths)))
        self.assertTrue(is_plan_another_way(dam, loss, fractions(plan)))
        self.assertEqual(worth_of_plan(worths, fractions(plan)), best)
        self.assertGreaterEqual(min(fractions(prices)), 0)
        self.assertEqual(bound(dam, loss, worths, fractions(prices)), best)
        self.assertIs(shows_leak_plan(dam, given, worths, plan), True)
        self.assertIs(shows_leak_prices(dam, given, worths, prices), True)
        return best

    def test_example(self):
        self.assertEqual(leak_worth(DAM, HALF, WORTHS), (28, 1))
        self.assertEqual(self.check_answers(DAM, Fraction(1, 2), WORTHS), 28)

    def test_against_the_bound_of_the_prices(self):
        without = 0
        for dam, loss, given, worths in some_cases(1200, 231):
            with self.subTest(dam=dam, loss=loss, worths=worths):
                if run_another_way(dam, loss, 0) is None:
                    without += 1
                    for function, args in FUNCTIONS:
                        self.assertEqual(error_of(function, dam, given, worths, *args), ("NoPlan", {}))
                else:
                    self.check_answers(dam, loss, worths)
        self.assertTrue(150 < without < 600, without)

    def test_no_other_plan_is_worth_more(self):
        dice = random.Random(232)
        checked = 0
        for dam, loss, given, worths in some_cases(200, 232):
            for _ in range(30):
                plan = some_releases(dam, loss, dice)
                if is_plan_another_way(dam, loss, plan):
                    checked += 1
                    best = fraction(leak_worth(dam, given, worths))
                    worth = worth_of_plan(worths, plan)
                    self.assertLessEqual(worth, best)
                    self.assertIs(shows_leak_plan(dam, given, worths, ratios(plan)), worth == best)
        self.assertGreater(checked, 1500)

    def test_all_plans_of_quarters(self):
        dice = random.Random(233)
        for _ in range(40):
            capacity = dice.randint(0, 2)
            dam = (capacity, dice.randint(0, capacity), 0, (dice.randint(0, 2), dice.randint(0, 2)))
            worths = some_worths(2, dice, 2, 2)
            most = 4 * (dam[1] + sum(dam[3]))
            quarters = [Fraction(quarter, 4) for quarter in range(most + 1)]
            # With a loss of a half, the bends of all that can be held are quarters.
            best = max(
                worth_of_plan(worths, plan) for plan in itertools.product(quarters, repeat=2)
                if is_plan_another_way(dam, Fraction(1, 2), plan)
            )
            with self.subTest(dam=dam, worths=worths):
                self.assertEqual(self.check_answers(dam, Fraction(1, 2), worths), best)

    def test_a_loss_of_nothing(self):
        for dam, _, _, worths in some_cases(300, 234):
            if run_another_way(dam, Fraction(0), 0) is not None:
                self.assertEqual(leak_worth(dam, (0, 1), worths), (best_worth(dam, worths), 1))

    def test_edges(self):
        half = Fraction(1, 2)
        self.assertEqual(self.check_answers((0, 0, 0, (5,)), half, ((),)), 0)
        self.assertEqual(self.check_answers((0, 0, 0, (5, 0)), half, (((3, 4),), ((9, 9),))), 12)
        self.assertEqual(self.check_answers((9, 0, 0, (0, 0)), half, (((3, 4),), ((9, 9),))), 0)
        self.assertEqual(self.check_answers((9, 4, 0, (0, 0)), half, ((), ((9, 9),))), 18)
        self.assertEqual(self.check_answers((9, 4, 0, (0, 0)), half, (((9, 5),), ((9, 9),))), 20)
        self.assertEqual(self.check_answers((9, 4, 0, (0, 0)), half, (((9, 4),), ((1, 9),))), 17)
        # Half of what is held behind the last month is lost before the end is looked at.
        self.assertEqual(self.check_answers((9, 4, 1, (0,)), half, (((9, 4),),)), 8)
        self.assertEqual(self.check_answers((3, 3, 0, (3, 0)), half, ((), ((9, 9),))), Fraction(27, 2))
        full = (((1000, 1000), (1000, 999)),) * 5
        self.check_answers((1000, 1000, 0, (1000,) * 5), Fraction(99, 100), full)
        self.check_answers((1000, 1000, 990, (1000,) * 5), Fraction(1, 100), full)
        self.check_answers((1000, 0, 0, (1000, 0, 0, 0, 0)), Fraction(37, 97), full)
        self.assertEqual(self.check_answers((1000, 1000, 0, (0,) * 5), Fraction(9, 10), ((),) * 4 + (((1, 1000),),)), 100)

    def test_ends_that_can_just_be_held(self):
        for dam, loss in JUST_HELD + tuple((dam, (0, 1)) for dam in JUST_PLAN_DAMS):
            with self.subTest(dam=dam, loss=loss):
                worths = (((2, 5), (9, 1)),) * len(dam[3])
                self.check_answers(dam, Fraction(*loss), worths)

    def test_no_plan(self):
        for dam, loss in NOT_HELD + tuple((dam, (0, 1)) for dam in NO_PLAN_DAMS):
            for function, args in FUNCTIONS:
                with self.subTest(dam=dam, loss=loss, function=function.__name__):
                    self.assertEqual(error_of(function, dam, loss, ((),) * len(dam[3]), *args), ("NoPlan", {}))


class ArgumentsTest(unittest.TestCase):
    def test_wrong_arguments(self):
        for function, args in FUNCTIONS:
            check_refused(self, function, (DAM, HALF, WORTHS) + args, 0, "BadDam", BAD_DAMS)
            for dam in (DAM, NO_PLAN_DAMS[0], (10, 5, 0, (1,) * 6)):
                check_refused(self, function, (dam, HALF, WORTHS) + args, 1, "BadLoss", BAD_LOSSES)
            for value, index in BAD_WORTHS:
                for dam in (DAM, NO_PLAN_DAMS[0]):
                    check_refused(self, function, (dam, HALF, WORTHS) + args, 2, "BadWorths", [value], index=index)

    def test_a_third_pair(self):
        for function, args in FUNCTIONS:
            for dam in (DAM, NO_PLAN_DAMS[0]):
                for worths, index in (
                    ((THREE, ()), 0), (((), THREE), 1), ((THREE, THREE), 0), ((((2, 5), (9, 1)), THREE), 1),
                    # All other wrong worths come first.
                    ((THREE, None), 1), ((THREE, ((1, 1), (1, 1))), 1), ((THREE, ((1, 0),)), 1),
                    ((THREE, THREE + ((1, 0),)), 1), ((THREE, [THREE]), 1), ((None, THREE), 0),
                    ((THREE,), None), ((THREE, (), ()), None), ([THREE, ()], None),
                ):
                    check_refused(self, function, (dam, HALF, WORTHS) + args, 2, "BadWorths", [worths], index=index)

    def test_six_months(self):
        long = (10, 5, 0, (1,) * 6)
        for function, args in FUNCTIONS:
            for months in (6, 7, 12):
                for dam in ((10, 5, 0, (1,) * months), (10, 0, 10, (0,) * months)):
                    with self.subTest(function=function.__name__, dam=dam):
                        self.assertEqual(error_of(function, dam, HALF, ((),) * months, *args), ("TooMany", {"most": 5}))
            self.assertEqual(error_of(function, long, HALF, ((),) * 5, *args), ("BadWorths", {"index": None}))
            self.assertEqual(error_of(function, long, HALF, ((),) * 5 + (THREE,), *args), ("BadWorths", {"index": 5}))
            self.assertEqual(error_of(function, long, (2, 4), ((),) * 6, *args), ("BadLoss", {}))
            self.assertEqual(error_of(function, (4,) + long[1:], HALF, ((),) * 6, *args), ("BadDam", {}))
            self.assertIsNone(error_of(function, (10, 5, 0, (1,) * 5), HALF, ((),) * 5, *args))


class ShowsTest(unittest.TestCase):
    CASES = (
        ((2, 1, 0, (1, 2)), HALF, (((1, 3),), ((2, 3), (1, 1)))), ((2, 2, 1, (0,)), HALF, (((1, 3),),)),
        ((2, 2, 0, (0, 0)), HALF, (((2, 2),), ((2, 4),))), ((0, 0, 0, (1, 2)), HALF, (((1, 3),), ())),
        ((2, 1, 1, (0, 2)), HALF, (((1, 2), (1, 1)), ((3, 1),))), ((3, 1, 0, (1, 1)), (0, 1), (((2, 2),), ((2, 2),))),
        ((3, 2, 0, (1,)), (2, 3), (((1, 2), (1, 1)),)),
    )

    def test_all_plans_of_halves(self):
        for dam, given, worths in self.CASES:
            loss = Fraction(*given)
            best = fraction(leak_worth(dam, given, worths))
            halves = [Fraction(half, 2) for half in range(-2, 2 * (dam[1] + sum(dam[3])) + 3)]
            right, others = [], []
            for plan in itertools.product(halves, repeat=len(worths)):
                is_right = is_plan_another_way(dam, loss, plan) and worth_of_plan(worths, plan) == best
                (right if is_right else others).append(ratios(plan))
            self.assertTrue(right)
            for plan in right[:2]:
                others.extend(near_ratios(plan) + [plan[1:], plan + ((0, 1),)])
            known = set(map(repr, right))
            check_shows(self, shows_leak_plan, (dam, given, worths), right, [v for v in others if repr(v) not in known])

    def test_all_small_prices(self):
        for dam, given, worths in self.CASES:
            loss = Fraction(*given)
            best = fraction(leak_worth(dam, given, worths))
            halves = [Fraction(half, 2) for half in range(-2, 12)]
            right, others = [leak_prices(dam, given, worths)], []
            for prices in itertools.product(halves, repeat=len(worths)):
                is_right = min(prices) >= 0 and bound(dam, loss, worths, prices) == best
                (right if is_right else others).append(ratios(prices))
            for prices in right[:2]:
                others.extend(near_ratios(prices) + [prices[1:], prices + ((0, 1),)])
                others.append(tuple(top // bottom for top, bottom in prices))
            known = set(map(repr, right))
            others = [value for value in others if repr(value) not in known]
            check_shows(self, shows_leak_prices, (dam, given, worths), right, others)


if __name__ == "__main__":
    unittest.main()
