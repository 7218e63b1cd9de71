"""Point 22: markets, the water of a dam for several users."""

import itertools
import random
import unittest
from fractions import Fraction

from damworks.markets import market, shows_market
from tests.helpers import (
    BAD_DAMS, BAD_WORTHS, DAM, JUST_PLAN_DAMS, KINDS, NO_PLAN_DAMS, WORTHS, check_refused, check_shows, error_of,
    fractions, half_plans, has_plan, near_ratios, ratios, some_dams, some_worths, worth_of,
)
from tests.test_prices import bound
from tests.test_worths import best_another_way

USERS = (WORTHS, ((), ((3, 4),)))

BAD_USERS = tuple((value, None) for value in KINDS if not isinstance(value, tuple)) + (
    ((), None), ([], None), ([WORTHS], None), ({0: WORTHS}, None), ((WORTHS,) * 5, None), ((None,) * 5, None),
    ((None,), 0), ((True,), 0), (((),), 0), ((((),),), 0), ((WORTHS, list(WORTHS)), 1), ((WORTHS, None, None), 1),
    (WORTHS, 0), ((WORTHS, WORTHS, WORTHS, ()), 3), ((WORTHS, WORTHS, 5, WORTHS), 2), ((list(WORTHS), WORTHS), 0),
    (("ab", "cd"), 0), ((WORTHS, "ab"), 1), ((WORTHS, WORTHS + ((),)), 1),
) + tuple(((WORTHS, value), 1) for value, _ in BAD_WORTHS)


def together(users):
    """The pairs of all users of each month, the dearest first."""
    months = zip(*users)
    return [sorted((pair for pairs in month for pair in pairs), key=lambda pair: -pair[1]) for month in months]


def sums_of_months(parts, left):
    """What all take in each month, with what nobody takes."""
    return [sum(month) for month in zip(*parts, left)]


def worth_of_parts(users, parts):
    """What the parts are worth to their users."""
    return sum(
        (worth_of_any(pairs, part) for worths, row in zip(users, parts) for pairs, part in zip(worths, row)),
        Fraction(0),
    )


def worth_of_any(pairs, release):
    """What a release, any fraction, is worth."""
    found = Fraction(0)
    for amount, price in pairs:
        found += min(release, amount) * price
        release -= min(release, amount)
    return found


def is_market(dam, users, prices, parts, left):
    """Whether integers and fractions of the right numbers are a market, by the words of the point."""
    capacity, held, end, inflows = dam
    if min(prices) < 0 or min(left) < 0 or any(min(row) < 0 for row in parts):
        return False
    for inflow, release in zip(inflows, sums_of_months(parts, left)):
        held += inflow - release
        if not 0 <= held <= capacity:
            return False
    return held >= end and worth_of_parts(users, parts) == bound(dam, together(users), prices)


class MarketTest(unittest.TestCase):
    def check_market(self, dam, users):
        """What a market returns: its kinds, the words of the point, and that all are content with the prices."""
        found = market(dam, users)
        self.assertIs(shows_market(dam, users, found), True)
        prices, parts, left = found
        self.assertEqual([type(found), type(prices), type(parts)], [tuple] * 3)
        self.assertEqual({type(price) for price in prices}, {int})
        self.assertEqual((len(prices), len(left), len(parts)), (len(dam[3]), len(dam[3]), len(users)))
        rows = [fractions(row) for row in parts]
        self.assertEqual({len(row) for row in rows}, {len(dam[3])})
        self.assertTrue(is_market(dam, users, prices, rows, fractions(left)))
        for worths, row in zip(users, rows):
            for pairs, part, price in zip(worths, row, prices):
                best = sum(amount * max(0, paid - price) for amount, paid in pairs)
                self.assertEqual(worth_of_any(pairs, part) - price * part, best)
        releases = sums_of_months(rows, fractions(left))
        paid = sum(price * release for price, release in zip(prices, releases))
        # Another plan is paid most if it is a best plan for worths that pay the price of each unit of its month.
        offers = [((dam[0] + sum(dam[3]), price),) if price > 0 else () for price in prices]
        if dam[0] <= 20:
            self.assertEqual(paid, best_another_way(dam, offers))
        return worth_of_parts(users, rows)

    def test_example(self):
        dam, users = (10, 0, 0, (4,)), ((((2, 5),),), (((4, 3),),))
        self.assertIs(shows_market(dam, users, ((3,), (((2, 1),), ((2, 1),)), ((0, 1),))), True)
        self.assertEqual(self.check_market(dam, users), 16)

    def test_against_all_levels(self):
        dice = random.Random(221)
        without = 0
        for dam in some_dams(700, 221):
            most = dice.choice((1, 2, 5, 20))
            users = tuple(some_worths(len(dam[3]), dice, most) for _ in range(dice.randint(1, 4)))
            with self.subTest(dam=dam, users=users):
                if not has_plan(dam):
                    without += 1
                    self.assertEqual(error_of(market, dam, users), ("NoPlan", {}))
                    self.assertEqual(error_of(shows_market, dam, users, None), ("NoPlan", {}))
                else:
                    worth = self.check_market(dam, users)
                    if dam[0] <= 20:
                        self.assertEqual(worth, best_another_way(dam, together(users)))
        self.assertTrue(50 < without < 400, without)

    def test_against_all_plans_of_halves(self):
        dice = random.Random(222)
        for _ in range(60):
            capacity = dice.randint(0, 3)
            dam = (capacity, dice.randint(0, capacity), 0, (dice.randint(0, 3), 1, dice.randint(0, 1)))
            users = tuple(some_worths(3, dice, 3) for _ in range(dice.randint(1, 3)))
            best = max(
                sum(worth_of(pairs, release) for pairs, release in zip(together(users), plan))
                for plan in half_plans(dam)
            )
            with self.subTest(dam=dam, users=users):
                self.assertEqual(self.check_market(dam, users), best)

    def test_edges(self):
        nobody = ((),)
        self.assertEqual(self.check_market((0, 0, 0, (0,)), (nobody,)), 0)
        self.assertEqual(market((0, 0, 0, (7,)), (nobody,)), ((0,), (((0, 1),),), ((7, 1),)))
        self.assertEqual(self.check_market((9, 9, 0, (0, 0)), (((), ()),) * 4), 0)
        one = (((2, 5), (1, 2)),)
        self.assertEqual(self.check_market((9, 3, 0, (0,)), (one, one)), 15)
        self.assertEqual(self.check_market((9, 5, 0, (0,)), (one, one)), 22)
        self.assertEqual(self.check_market((9, 9, 0, (0,)), (one, one)), 24)
        self.assertEqual(self.check_market((9, 9, 9, (0,)), (one, one)), 0)
        self.assertEqual(self.check_market((9, 1, 0, (0,)), (one, nobody, one, nobody)), 5)
        full = (((1000, 1000), (1000, 999), (1000, 998)),) * 12
        self.assertEqual(self.check_market((1000, 1000, 0, (1000,) * 12), (full,) * 4), 13 * 10 ** 6)
        self.assertEqual(self.check_market((1000, 1000, 1000, (0,) * 12), (full,) * 4), 0)
        self.assertEqual(self.check_market((3, 0, 2, (5, 0)), (((), ((9, 9),)), (((1, 1),), ()))), 10)
        for dam in JUST_PLAN_DAMS:
            users = tuple(worths[:len(dam[3])] for worths in USERS)
            self.assertEqual(self.check_market(dam, users), best_another_way(dam, together(users)))

    def test_wrong_arguments(self):
        for function, args in ((market, ()), (shows_market, (None,))):
            check_refused(self, function, (DAM, USERS) + args, 0, "BadDam", BAD_DAMS)
            for value, index in BAD_USERS:
                for dam in (DAM, NO_PLAN_DAMS[0]):
                    check_refused(self, function, (dam, USERS) + args, 1, "BadUsers", [value], index=index)
            for dam in NO_PLAN_DAMS:
                self.assertEqual(error_of(function, dam, tuple(w[:len(dam[3])] for w in USERS), *args), ("NoPlan", {}))

    def test_most_users(self):
        self.assertIsNone(error_of(market, DAM, (WORTHS,) * 4))
        self.assertIsNone(error_of(market, DAM, (WORTHS,)))


class ShowsTest(unittest.TestCase):
    def check_all(self, dam, users):
        """All triples of small prices and halves."""
        months = len(dam[3])
        halves = [Fraction(half, 2) for half in range(-1, 2 * (dam[1] + sum(dam[3])) + 2)]
        rows = list(itertools.product(halves, repeat=months))
        right, others = [], []
        for prices in itertools.product(range(-1, 5), repeat=months):
            for parts in itertools.product(rows, repeat=len(users)):
                for left in rows:
                    value = (prices, tuple(map(ratios, parts)), ratios(left))
                    is_right = is_market(dam, users, prices, parts, left)
                    if is_right or len(others) < 3000:
                        (right if is_right else others).append(value)
        self.assertTrue(right)
        for value in right[:1] + right[-1:]:
            others.extend(self.near(*value))
        known = set(map(repr, right))
        others = [value for value in others if repr(value) not in known]
        check_shows(self, shows_market, (dam, users), right[:500], others)

    def near(self, prices, parts, left):
        """Values that look like a market and are none."""
        found = [
            [prices, parts, left], (prices, parts), (prices, parts, left, left), (prices, parts + (left,)),
            (prices, (parts,), left), (prices, parts, (left,)), (prices, list(parts), left), (list(prices), parts, left),
            (prices, parts[1:], left), (prices, parts + parts[:1], left), (ratios(prices), parts, left),
            (prices + (0,), parts, left), (prices[1:], parts, left), ((None,) + prices[1:], parts, left),
            ((bool(prices[0]),) + prices[1:], parts, left), ((str(prices[0]),) + prices[1:], parts, left),
            (prices, parts, left[1:]), (prices, parts, left + ((0, 1),)), (prices, dict(enumerate(parts)), left),
            (prices, (parts[0][1:],) + parts[1:], left), (prices, (parts[0] + ((0, 1),),) + parts[1:], left),
            (prices, None, left), (prices, parts, None), (None, parts, left), (prices[0], parts, left), str(prices),
        ]
        found.extend((prices, parts, wrong) for wrong in near_ratios(left))
        found.extend((prices, (wrong,) + parts[1:], left) for wrong in near_ratios(parts[0]))
        found.extend((prices, parts[:-1] + (wrong,), left) for wrong in near_ratios(parts[-1]))
        return found

    def test_all_small_ones(self):
        self.check_all((2, 1, 0, (1,)), ((((1, 3),),), (((2, 3), (1, 1)),)))
        self.check_all((1, 0, 0, (1, 0)), ((((1, 2),), ((1, 3),)),))
        self.check_all((1, 1, 1, (1,)), ((((2, 4),),), ((),)))
        self.check_all((0, 0, 0, (1,)), ((((1, 2),),), (((1, 2),),)))

    def test_thirds_of_a_user_who_wants_the_same(self):
        dam, users = (2, 1, 0, (1,)), ((((2, 3),),),) * 2
        third, rest = ((1, 3),), ((5, 3),)
        self.assertIs(shows_market(dam, users, ((3,), (third, rest), ((0, 1),))), True)
        self.assertIs(shows_market(dam, users, ((2,), (third, rest), ((0, 1),))), False)
        self.assertIs(shows_market(dam, users, ((3,), (third, ((4, 3),)), ((0, 1),))), False)
        self.assertIs(shows_market(dam, users, ((3,), (third, ((4, 3),)), third)), False)


if __name__ == "__main__":
    unittest.main()
