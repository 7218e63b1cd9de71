"""Point 25: round years."""

import itertools
import random
import unittest

from damworks.rounds import round_prices, round_worth, shows_round
from damworks.worths import best_worth
from tests.helpers import BAD_INFLOWS, BAD_WORTHS, KINDS, WORTHS, check_refused, check_shows, error_of, some_worths

ARGS = (5, (4, 0), (((1, 3),), ((9, 2),)))
FUNCTIONS = ((round_worth, ()), (round_prices, ()), (shows_round, (None,)))

BAD_CAPACITIES = tuple(value for value in KINDS if repr(value) not in ("0", "1", "7")) + (61, 1000, "5", (5,), (5, 1))
# A tuple of two integers is inflows.
WRONG_INFLOWS = BAD_INFLOWS + tuple(value for value in KINDS if repr(value) not in ("(0,)", "(1, 2)", "(0, 1, 2, 3)"))


def year_another_way(capacity, inflows, worths, level):
    """The greatest worth of a year that begins and ends with a level, by all integers that can be held."""
    best = {level: 0}
    for inflow, pairs in zip(inflows, worths):
        sums = [0]
        for amount, price in pairs:
            for _ in range(amount):
                sums.append(sums[-1] + price)
        after = {}
        for held, worth in best.items():
            for kept in range(min(capacity, held + inflow) + 1):
                sold = min(held + inflow - kept, len(sums) - 1)
                after[kept] = max(worth + sums[sold], after.get(kept, 0))
        best = after
    return best[level]


def round_another_way(capacity, inflows, worths):
    """The greatest worth of all levels and the least level with it."""
    found = [year_another_way(capacity, inflows, worths, level) for level in range(capacity + 1)]
    return max(found), found.index(max(found))


def bound(capacity, inflows, worths, prices):
    """The round bound of prices, by the words of the point."""
    found = sum(inflow * price for inflow, price in zip(inflows, prices))
    for pairs, price in zip(worths, prices):
        for amount, paid in pairs:
            found += amount * max(0, paid - price)
    for month, price in enumerate(prices):
        following = prices[(month + 1) % len(prices)]
        if following > price:
            found += capacity * (following - price)
    return found


class RoundTest(unittest.TestCase):
    def check_answers(self, capacity, inflows, worths):
        """The prices are prices and their bound is the worth, which is returned with the level."""
        found = round_worth(capacity, inflows, worths)
        self.assertEqual((type(found), len(found)), (tuple, 2))
        prices = round_prices(capacity, inflows, worths)
        self.assertEqual((type(prices), len(prices)), (tuple, len(inflows)))
        for price in prices:
            self.assertIs(type(price), int)
            self.assertGreaterEqual(price, 0)
        self.assertEqual(bound(capacity, inflows, worths, prices), found[0])
        self.assertIs(shows_round(capacity, inflows, worths, prices), True)
        return found

    def test_examples(self):
        self.assertEqual(round_worth(*ARGS), (9, 0))
        self.assertEqual(round_prices(*ARGS), (2, 2))
        self.assertEqual(self.check_answers(*ARGS), (9, 0))

    def test_against_a_year_from_each_level(self):
        dice = random.Random(251)
        for _ in range(500):
            capacity = dice.choice((0, 1, 2, 3, 5, 9))
            most = dice.choice((1, 3, 8))
            inflows = tuple(dice.choice((0, dice.randint(0, most))) for _ in range(dice.choice((1, 2, 2, 3, 4, 6, 12))))
            worths = some_worths(len(inflows), dice, dice.choice((1, 3, 9)))
            with self.subTest(capacity=capacity, inflows=inflows, worths=worths):
                expected = round_another_way(capacity, inflows, worths)
                self.assertEqual(self.check_answers(capacity, inflows, worths), expected)

    def test_wide_numbers(self):
        dice = random.Random(252)
        for _ in range(60):
            inflows = tuple(dice.choice((0, dice.randint(0, 90), 1000)) for _ in range(dice.randint(1, 12)))
            worths = tuple(
                tuple((dice.randint(1, 1000), price) for price in sorted(
                    dice.sample(range(1, 1001), dice.randint(0, 3)), reverse=True)) for _ in inflows
            )
            capacity = dice.choice((60, dice.randint(0, 60)))
            with self.subTest(capacity=capacity, inflows=inflows, worths=worths):
                worth, level = self.check_answers(capacity, inflows, worths)
                self.assertEqual(best_worth((capacity, level, level, inflows), worths), worth)
                for less in range(level):
                    self.assertLess(best_worth((capacity, less, less, inflows), worths), worth)

    def test_water_goes_over_the_end_of_the_year(self):
        wanted = (((9, 7),), ())
        self.assertEqual(self.check_answers(5, (0, 8), wanted), (35, 5))
        self.assertEqual(self.check_answers(9, (0, 8), wanted), (56, 8))
        self.assertEqual(self.check_answers(3, (8, 0), wanted), (56, 0))
        self.assertEqual(self.check_answers(3, (0, 0, 8), ((), ((2, 5), (9, 1)), ())), (11, 3))
        self.assertEqual(self.check_answers(3, (0, 0, 2), ((), ((1, 5),), ())), (5, 1))

    def test_edges(self):
        self.assertEqual(self.check_answers(0, (0,), ((),)), (0, 0))
        self.assertEqual(self.check_answers(60, (0,), (((9, 9),),)), (0, 0))
        self.assertEqual(self.check_answers(60, (7,), (((5, 9), (1, 2)),)), (47, 0))
        self.assertEqual(self.check_answers(0, (0, 7), (((9, 9),), ((1, 1),))), (1, 0))
        self.assertEqual(self.check_answers(60, (0, 1000), (((1000, 1000),), ())), (60000, 60))
        self.assertEqual(self.check_answers(60, (7, 8), ((), ())), (0, 0))
        full = (((1000, 1000), (1000, 999), (1000, 1)),) * 12
        self.assertEqual(self.check_answers(60, (1000,) * 12, full), (12 * 10 ** 6, 0))
        self.assertEqual(self.check_answers(60, (0,) * 12, full), (0, 0))
        self.assertEqual(self.check_answers(2, (0, 1, 0, 0, 1, 0, 0, 1, 0, 0, 1, 0),
                                            (((9, 9),),) + ((),) * 11), (18, 2))

    def test_wrong_arguments(self):
        for function, args in FUNCTIONS:
            check_refused(self, function, (5, (3, 4), WORTHS) + args, 0, "BadCapacity", BAD_CAPACITIES)
            check_refused(self, function, (5, (3, 4), WORTHS) + args, 1, "BadInflows", WRONG_INFLOWS)
            for value, index in BAD_WORTHS:
                check_refused(self, function, (5, (3, 4), WORTHS) + args, 2, "BadWorths", [value], index=index)
            for capacity in (0, 60):
                self.assertIsNone(error_of(function, capacity, (3, 4), WORTHS, *args))


class ShowsTest(unittest.TestCase):
    def test_all_small_prices(self):
        for args in (
            ARGS, (2, (1, 2), (((1, 3),), ((2, 3), (1, 1)))), (0, (1, 0), (((1, 4),), ())), (3, (0, 0), ((), ())),
            (2, (3,), (((1, 5), (1, 3), (1, 2)),)), (1, (0, 2, 0), (((1, 1),), ((1, 2),), ((2, 3),))),
            (2, (0, 3), (((3, 4),), ())), (60, (0, 9), (((3, 4), (5, 2)), ())), (0, (2,), (((2, 4),),)),
        ):
            best = round_another_way(*args)[0]
            right, others = [], []
            for prices in itertools.product(range(-1, 7), repeat=len(args[1])):
                is_right = min(prices) >= 0 and bound(*args, prices) == best
                (right if is_right else others).append(prices)
            self.assertTrue(right)
            for prices in list(right[:5]):
                others.extend((
                    list(prices), prices + (0,), prices[1:], (str(prices[0]), *prices[1:]), (*prices[:-1], None),
                    (bool(prices[0]), *prices[1:]), ((prices[0], 1), *prices[1:]), tuple((p, 1) for p in prices),
                    dict(enumerate(prices)), str(prices), (prices,),
                ))
                high = (*prices[:-1], prices[-1] + 10 ** 40)
                (right if bound(*args, high) == best else others).append(high)
            known = set(map(repr, right))
            check_shows(self, shows_round, args, right, [value for value in others if repr(value) not in known])


if __name__ == "__main__":
    unittest.main()
