"""Point 13: rivers, river worths, plans and prices."""

import itertools
import random
import unittest
from fractions import Fraction

from damworks.rivers import river_plan, river_prices, river_worth, shows_river, shows_river_prices
from tests.helpers import (
    BAD_DAMS, BAD_WORTHS, KINDS, NO_PLAN_DAMS, check_refused, check_shows, error_of, fractions, near_ratios, ratios,
    some_worths, worth_of,
)

DAM = (5, 2, 0, (1, 1))
RIVER = ((DAM, 1, 1), (DAM, None, 0))
WORTHS = ((((1, 2),), ()), ((), ((9, 5),)))
FUNCTIONS = (
    (river_worth, ()), (river_plan, ()), (river_prices, ()), (shows_river, (None,)), (shows_river_prices, (None,)),
)

OTHER_DAM = (5, 2, 0, (1, 1, 1))

# Values that are no rivers, each with the index of its error.
BAD_RIVERS = tuple((value, None) for value in KINDS if not isinstance(value, tuple) or len(value) not in (1, 2, 3)) + (
    (list(RIVER), None), ({0: RIVER[0]}, None), (((DAM, None, 0),) * 4, None), ((), None),
    ((None,), 0), (((0, 1), (1, 1)), 0), (((DAM, None),), 0), (((DAM, None, 0, 0),), 0), (([DAM, None, 0],), 0),
    ((DAM,), 0), (((DAM, None, 1),), 0), (((DAM, None, False),), 0), (((DAM, None, None),), 0),
    (((DAM, 0, 0),), 0), (((DAM, 1, 0),), 0), (((DAM, -1, 0),), 0), (((DAM, False, 0),), 0), (((DAM, "1", 0),), 0),
    (((DAM, True, 1), RIVER[1]), 0), (((DAM, 2, 1), RIVER[1]), 0), (((DAM, 0, 1), RIVER[1]), 0),
    (((DAM, 1, 3), RIVER[1]), 0), (((DAM, 1, -1), RIVER[1]), 0), (((DAM, 1, True), RIVER[1]), 0),
    (((DAM, 1, "1"), RIVER[1]), 0), (((DAM, 1, (1,)), RIVER[1]), 0), (((DAM, (1,), 1), RIVER[1]), 0),
    (((DAM, 1, 1), (DAM, 1, 0)), 1), (((DAM, 1, 1), (DAM, 0, 0)), 1), (((DAM, 1, 1), (DAM, 2, 0)), 1),
    (((DAM, 1, 1), (DAM, None, 2)), 1), (((DAM, 1, 1), None), 1), (((DAM, 1, 1), (OTHER_DAM, None, 0)), 1),
    (((OTHER_DAM, 1, 1), (DAM, None, 0)), 1), ((RIVER[0], RIVER[1], (OTHER_DAM, None, 0)), 2),
    ((RIVER[0], (OTHER_DAM, 2, 0), (OTHER_DAM, None, 0)), 1), ((RIVER[0], RIVER[1], (DAM, 2, 0)), 2),
    ((RIVER[0], (DAM, 1, 0), (DAM, None, 0)), 1), ((RIVER[0], (DAM, 0, 0), None), 1), ((None, None, None), 0),
    ((((5, 2, 0, (1,) * 6), None, 0),), 0), ((((5, 2, 0, (1,) * 12), 1, 0), (DAM, None, 0)), 0),
) + tuple((((dam, None, 0),), 0) for dam in BAD_DAMS) + tuple(((RIVER[0], (dam, None, 0)), 1) for dam in BAD_DAMS)

BAD_RIVER_WORTHS = tuple(
    (value, None) for value in KINDS if not isinstance(value, tuple) or len(value) != 2
) + (
    (list(WORTHS), None), (WORTHS[:1], None), (WORTHS + WORTHS[:1], None), ({0: WORTHS[0], 1: WORTHS[1]}, None),
    ((None, WORTHS[1]), 0), ((WORTHS[0], None), 1), ((WORTHS[0], WORTHS[1][:1]), 1), ((WORTHS[0] + ((),), WORTHS[1]), 0),
    ((WORTHS[0], ((), ((3, 3), (2, 2), (1, 1)))), 1), (((((3, 3), (2, 2), (1, 1)), ()), None), 0), ((0, 1), 0),
) + tuple(((some, WORTHS[1]), 0) for some, _ in BAD_WORTHS) + tuple(((WORTHS[0], some), 1) for some, _ in BAD_WORTHS)

NO_PLAN_RIVERS = tuple(((dam, None, 0),) for dam in NO_PLAN_DAMS) + tuple(
    ((dam, 1, 0), (DAM, None, 0)) for dam in NO_PLAN_DAMS
) + (
    # The water from above comes, but too little of it or too late.
    (((5, 2, 0, (1, 1)), 1, 0), ((9, 0, 5, (0, 0)), None, 0)), (((5, 2, 0, (1, 1)), 1, 1), ((9, 0, 4, (0, 0)), None, 0)),
    (((5, 2, 0, (1, 1)), 1, 2), ((9, 0, 1, (0, 0)), None, 0)), (((5, 2, 2, (1, 1)), 1, 0), ((9, 0, 3, (0, 0)), None, 0)),
    (((5, 2, 0, (1, 1)), None, 0), ((9, 0, 1, (0, 0)), None, 0)),
)
JUST_PLAN_RIVERS = (
    (((5, 2, 0, (1, 1)), 1, 0), ((9, 0, 4, (0, 0)), None, 0)), (((5, 2, 0, (1, 1)), 1, 1), ((9, 0, 3, (0, 0)), None, 0)),
    (((5, 2, 0, (1, 1)), 1, 2), ((9, 0, 0, (0, 0)), None, 0)), (((5, 2, 2, (1, 1)), 1, 0), ((9, 0, 2, (0, 0)), None, 0)),
    (((5, 2, 0, (1, 1)), None, 0), ((9, 0, 1, (0, 1)), None, 0)),
)


def best_another_way(river, worths):
    """The best worth by all integers that can be held in each dam behind each month, None without a plan."""
    months = len(river[0][0][3])
    states = {(tuple(dam[1] for dam, _, _ in river), ((0, 0, 0),) * len(river)): 0}
    for month in range(months):
        for index, ((capacity, _, _, inflows), target, delay) in enumerate(river):
            after = {}
            for (held, coming), worth in states.items():
                water = held[index] + inflows[month] + coming[index][0]
                for kept in range(min(capacity, water) + 1):
                    rows = [list(row) for row in coming]
                    rows[index][0] = 0
                    if target is not None:
                        rows[target][delay] += water - kept
                    state = (held[:index] + (kept,) + held[index + 1:], tuple(map(tuple, rows)))
                    found = worth + int(worth_of(worths[index][month], water - kept))
                    after[state] = max(found, after.get(state, 0))
            states = after
        shifted = {}
        for (held, coming), worth in states.items():
            state = (held, tuple(row[1:] + (0,) for row in coming))
            shifted[state] = max(worth, shifted.get(state, 0))
        states = shifted
    ends = [dam[2] for dam, _, _ in river]
    return max((worth for (held, _), worth in states.items() if all(map(int.__ge__, held, ends))), default=None)


def come_to(river, plan):
    """What comes to each dam in each month, by fractions."""
    months = len(river[0][0][3])
    come = [list(map(Fraction, dam[3])) for dam, _, _ in river]
    for (_, target, delay), releases in zip(river, plan):
        for month, release in enumerate(releases):
            if target is not None and month + delay < months:
                come[target][month + delay] += release
    return come


def is_plan_another_way(river, plan):
    """Whether rows of fractions are a river plan."""
    for ((capacity, start, end, _), _, _), come, releases in zip(river, come_to(river, plan), plan):
        held = list(itertools.accumulate(map(Fraction.__sub__, come, releases), initial=Fraction(start)))
        if min(held) < 0 or max(held) > capacity or held[-1] < end or min(releases) < 0:
            return False
    return True


def half_river_plans(river):
    """All river plans of halves of integers."""
    plans = [()]
    for index, ((capacity, start, end, _), _, _) in enumerate(river):
        longer = []
        for plan in plans:
            rows = [((), Fraction(start))]
            for water in come_to(river, plan)[index]:
                rows = [
                    (row + (Fraction(release, 2),), held + water - Fraction(release, 2))
                    for row, held in rows
                    for release in range(int(2 * (held + water)) + 1)
                    if held + water - Fraction(release, 2) <= capacity
                ]
            longer.extend(plan + (row,) for row, held in rows if held >= end)
        plans = longer
    return plans


def worth_of_plan(worths, plan):
    """What the releases of a river plan of halves are worth."""
    return sum(worth_of(pairs, one) for some, row in zip(worths, plan) for pairs, one in zip(some, row))


def next_price(river, prices, index, month):
    """The next price, by the words of the point."""
    _, target, delay = river[index]
    return 0 if target is None or month + delay >= len(prices[index]) else prices[target][month + delay]


def bound(river, worths, prices):
    """The bound of river prices by the words of the point; None if they are none."""
    found = 0
    for index, ((capacity, start, end, inflows), _, _) in enumerate(river):
        row = prices[index]
        found += start * row[0] - end * row[-1]
        for month, inflow in enumerate(inflows):
            behind = next_price(river, prices, index, month)
            if row[month] < behind or row[month] < 0:
                return None
            found += inflow * row[month]
            found += sum(amount * max(0, price + behind - row[month]) for amount, price in worths[index][month])
            if month > 0:
                found += capacity * max(0, row[month] - row[month - 1])
    return found


def some_rivers(many, seed):
    """Small rivers with worths."""
    dice = random.Random(seed)
    for _ in range(many):
        count = dice.choice((1, 2, 2, 3))
        months = dice.randint(1, 5 if count < 3 else 3)
        most = 1 if count == 3 else 2
        links = []
        for index in range(count):
            capacity = dice.randint(0, most + 1)
            dam = (
                capacity, dice.randint(0, capacity), dice.choice((0, dice.randint(0, capacity), capacity)),
                tuple(dice.choice((0, dice.randint(0, most))) for _ in range(months)),
            )
            target = dice.choice((None,) + 3 * tuple(range(index + 1, count)))
            links.append((dam, target, 0 if target is None else dice.randint(0, 2)))
        yield tuple(links), tuple(some_worths(months, dice, dice.choice((1, 3, 9)), 2) for _ in range(count))


class RiverTest(unittest.TestCase):
    def check_answers(self, river, worths, best):
        months = len(river[0][0][3])
        found = river_worth(river, worths)
        self.assertEqual((type(found), found), (int, best))
        plan = river_plan(river, worths)
        self.assertIs(type(plan), tuple)
        self.assertTrue(is_plan_another_way(river, [fractions(row) for row in plan]))
        self.assertEqual([len(row) for row in plan], [months] * len(river))
        self.assertIs(shows_river(river, worths, plan), True)
        prices = river_prices(river, worths)
        self.assertIs(type(prices), tuple)
        for row in prices:
            self.assertEqual((type(row), len(row)), (tuple, months))
            self.assertEqual({type(price) for price in row}, {int})
        self.assertEqual(bound(river, worths, prices), best)
        self.assertIs(shows_river_prices(river, worths, prices), True)

    def test_example(self):
        self.assertEqual(river_worth(RIVER, WORTHS), 37)
        self.check_answers(RIVER, WORTHS, 37)

    def test_against_all_plans(self):
        without = 0
        for river, worths in some_rivers(300, 91):
            with self.subTest(river=river, worths=worths):
                best = best_another_way(river, worths)
                if best is None:
                    without += 1
                    for function, args in FUNCTIONS:
                        self.assertEqual(error_of(function, river, worths, *args), ("NoPlan", {}))
                else:
                    self.check_answers(river, worths, best)
        self.assertTrue(20 < without < 150, without)

    def test_against_all_plans_of_halves(self):
        checked = 0
        for river, worths in some_rivers(300, 92):
            if len(river) * len(river[0][0][3]) <= 4:
                plans = half_river_plans(river)
                if plans:
                    checked += 1
                    best = max(worth_of_plan(worths, plan) for plan in plans)
                    self.assertEqual(river_worth(river, worths), best)
        self.assertGreater(checked, 50)

    def test_wide_numbers_by_plan_and_bound(self):
        dice = random.Random(93)
        for _ in range(200):
            months, count = dice.randint(1, 5), dice.randint(1, 3)
            links = []
            for index in range(count):
                capacity = dice.choice((0, 1000, dice.randint(0, 1000)))
                inflows = tuple(dice.randint(0, dice.choice((9, 1000))) for _ in range(months))
                target = dice.choice((None,) + 3 * tuple(range(index + 1, count)))
                links.append((
                    (capacity, dice.randint(0, capacity), dice.randint(0, capacity // 4), inflows),
                    target, 0 if target is None else dice.randint(0, 2),
                ))
            river = tuple(links)
            worths = tuple(
                tuple(tuple((dice.randint(1, 1000), price) for price in sorted(
                    dice.sample(range(1, 1001), dice.randint(0, 2)), reverse=True)) for _ in range(months))
                for _ in links
            )
            with self.subTest(river=river, worths=worths):
                if error_of(river_worth, river, worths) is None:
                    self.check_answers(river, worths, river_worth(river, worths))

    def test_one_dam_is_a_dam(self):
        self.check_answers((((10, 5, 0, (3, 4)), None, 0),), ((((2, 5), (9, 1)), ((4, 3),)),), 28)

    def test_edges(self):
        full = (((1000, 1000), (1000, 1)),) * 5
        dam = (1000, 1000, 0, (1000,) * 5)
        self.check_answers(((dam, 1, 0), (dam, 2, 0), (dam, None, 0)), (full,) * 3, 15011000)
        self.check_answers(((dam, 2, 2), (dam, 2, 1), (dam, None, 0)), (((),) * 5, ((),) * 5, full), 5005000)
        self.check_answers((((0, 0, 0, (7,)), None, 0),), (((),),), 0)
        self.check_answers((((0, 0, 0, (7,)), 1, 0), ((0, 0, 0, (0,)), None, 0)), (((),), (((9, 3),),)), 21)
        self.check_answers((((0, 0, 0, (7, 0)), 1, 1), ((0, 0, 0, (0, 0)), None, 0)), (((), ()), ((), ((9, 3),))), 21)

    def test_delays(self):
        above, below = (0, 0, 0, (5, 0, 0)), (0, 0, 0, (0, 0, 0))
        worths = (((),) * 3, (((9, 1),), ((9, 2),), ((9, 4),)))
        for delay, best in enumerate((5, 10, 20)):
            self.check_answers(((above, 1, delay), (below, None, 0)), worths, best)

    def test_water_behind_the_last_month_is_lost(self):
        worths = (((), ((2, 1),)), ((), ((9, 5),)))
        self.check_answers((((5, 0, 0, (0, 4)), 1, 1), ((5, 0, 0, (0, 0)), None, 0)), worths, 2)
        self.check_answers((((5, 0, 0, (0, 4)), 1, 0), ((5, 0, 0, (0, 0)), None, 0)), worths, 22)
        self.check_answers((((5, 4, 0, (0, 0)), 1, 2), ((5, 0, 0, (0, 0)), None, 0)), worths, 2)

    def test_two_dams_over_the_last_one(self):
        above, below = (3, 3, 0, (0, 0)), (2, 0, 0, (0, 0))
        worths = (((), ()), ((), ()), (((1, 9),), ((9, 4),)))
        self.check_answers(((above, 2, 1), (above, 2, 0), (below, None, 0)), worths, 9 + 5 * 4)

    def test_no_plan(self):
        for river in NO_PLAN_RIVERS:
            worths = (((), ()),) * len(river)
            for function, args in FUNCTIONS:
                with self.subTest(river=river, function=function.__name__):
                    self.assertEqual(error_of(function, river, worths, *args), ("NoPlan", {}))
                    wrong = ((None,),) * len(river)
                    self.assertEqual(error_of(function, river, wrong, *args), ("BadRiverWorths", {"index": 0}))
        for river in JUST_PLAN_RIVERS:
            with self.subTest(river):
                self.check_answers(river, WORTHS, best_another_way(river, WORTHS))

    def test_wrong_arguments(self):
        for function, args in FUNCTIONS:
            for value, index in BAD_RIVERS:
                check_refused(self, function, (RIVER, WORTHS) + args, 0, "BadRiver", [value], index=index)
            for value, index in BAD_RIVER_WORTHS:
                check_refused(self, function, (RIVER, WORTHS) + args, 1, "BadRiverWorths", [value], index=index)

    def test_greatest_rivers(self):
        links = tuple(((1000, 0, 0, (0,) * 5), target, delay) for target, delay in ((2, 2), (2, 0), (None, 0)))
        self.assertEqual(river_worth(links, (((),) * 5,) * 3), 0)


class ShowsTest(unittest.TestCase):
    def rivers(self):
        return (
            ((((1, 1, 0, (1, 0)), 1, 1), ((1, 0, 0, (0, 1)), None, 0)), ((((1, 2),), ((1, 1),)), ((), ((2, 3),)))),
            ((((1, 0, 0, (1, 1)), 1, 0), ((1, 0, 1, (0, 0)), None, 0)), (((), ()), (((1, 2),), ()))),
            ((((2, 1, 1, (1, 1)), None, 0),), ((((1, 4), (1, 2)), ((1, 3),)),)),
            ((((1, 1, 0, (1,)), 2, 0), ((0, 0, 0, (1,)), 2, 0), ((1, 0, 0, (0,)), None, 0)), (((),), ((),), (((2, 1),),))),
            ((((1, 1, 0, (0, 0)), 1, 2), ((1, 1, 0, (0, 0)), None, 0)), (((), ()), ((), ()))),
        )

    def test_all_plans_of_halves(self):
        for river, worths in self.rivers():
            plans = half_river_plans(river)
            best = max(worth_of_plan(worths, plan) for plan in plans)
            right, others = [], []
            for plan in plans:
                (right if worth_of_plan(worths, plan) == best else others).append(tuple(map(ratios, plan)))
            for plan in right[:1] + right[-1:]:
                for index, row in enumerate(plan):
                    others.extend(plan[:index] + (wrong,) + plan[index + 1:] for wrong in near_ratios(row))
                    others.append(plan[:index] + (row[1:],) + plan[index + 1:])
                    others.append(plan[:index] + (row + ((0, 1),),) + plan[index + 1:])
                    (top, bottom), *rest = row
                    for change in (-bottom, bottom, 9 * bottom):
                        changed = ratios([Fraction(top + change, bottom)]) + tuple(rest)
                        others.append(plan[:index] + (changed,) + plan[index + 1:])
                others.extend((list(plan), plan[1:], plan + plan[:1], (plan,), dict(enumerate(plan)), plan[0]))
            for value in list(others):
                # A release that is greater or smaller by a whole number may be as good.
                if value not in right and isinstance(value, tuple) and is_good(river, worths, value, best):
                    right.append(value)
            others = [value for value in others if repr(value) not in set(map(repr, right))]
            check_shows(self, shows_river, (river, worths), right, others)

    def test_a_plan_of_thirds(self):
        river, worths = self.rivers()[4]
        self.assertIs(shows_river(river, worths, (((1, 3), (2, 3)), ((0, 1), (1, 3)))), True)
        self.assertIs(shows_river(river, worths, (((1, 3), (3, 4)), ((0, 1), (1, 3)))), False)

    def test_all_small_prices(self):
        for river, worths in self.rivers():
            best = best_another_way(river, worths)
            months = len(river[0][0][3])
            right, others = [], []
            for numbers in itertools.product(range(-1, 6), repeat=len(river) * months):
                prices = tuple(zip(*[iter(numbers)] * months))
                is_right = bound(river, worths, prices) == best
                if is_right or len(others) < 3000:
                    (right if is_right else others).append(prices)
            self.assertTrue(right)
            for prices in right[:1] + right[-1:]:
                row = prices[0]
                for wrong in (list(row), row[1:], row + (0,), dict(enumerate(row)), str(row), None, row[0],
                              (bool(row[0]),) + row[1:], (None,) + row[1:], (str(row[0]),) + row[1:],
                              ((row[0], 1),) + row[1:], tuple((price, 1) for price in row)):
                    others.append((wrong,) + prices[1:])
                others.extend((list(prices), prices[1:], prices + prices[:1], (prices,), dict(enumerate(prices)), row))
                far = ((10 ** 40,) + row[1:],) + prices[1:]
                (right if bound(river, worths, far) == best else others).append(far)
            others = [value for value in others if repr(value) not in set(map(repr, right))]
            check_shows(self, shows_river_prices, (river, worths), right, others)


def is_good(river, worths, value, best):
    """Whether a value that looks like a plan of halves is a river plan of the best worth."""
    try:
        plan = [fractions(row) for row in value]
    except (AssertionError, TypeError, ValueError, ZeroDivisionError):
        return False
    if [len(row) for row in plan] != [len(dam[3]) for dam, _, _ in river]:
        return False
    return is_plan_another_way(river, plan) and worth_of_plan(worths, plan) == best


if __name__ == "__main__":
    unittest.main()
