"""Point 9: prices of water."""

import itertools
import unittest

from damworks.prices import shows_prices, water_prices, worth_of_room, worth_of_water
from tests.helpers import (
    DAM, JUST_PLAN_DAMS, KINDS, NO_PLAN_DAMS, WORTHS, check_refused, check_shows, check_worths_refused, error_of,
)
from tests.test_worths import best_another_way, many_worths

BAD_MONTHS = tuple(value for value in KINDS if repr(value) not in ("0", "1")) + (2, (0, 1), "0")


def bound(dam, worths, prices):
    """The bound of prices, by the words of the point."""
    capacity, start, end, inflows = dam
    found = start * prices[0] + sum(inflow * price for inflow, price in zip(inflows, prices))
    for month, pairs in enumerate(worths):
        for amount, price in pairs:
            if price > prices[month]:
                found += amount * (price - prices[month])
    for month in range(1, len(prices)):
        if prices[month] > prices[month - 1]:
            found += capacity * (prices[month] - prices[month - 1])
    return found - end * prices[-1]


class PricesTest(unittest.TestCase):
    def check_prices(self, dam, worths, best):
        prices = water_prices(dam, worths)
        self.assertIsInstance(prices, tuple)
        self.assertEqual(len(prices), len(dam[3]))
        for price in prices:
            self.assertIs(type(price), int)
            self.assertGreaterEqual(price, 0)
        self.assertEqual(bound(dam, worths, prices), best)
        self.assertIs(shows_prices(dam, worths, prices), True)

    def test_examples(self):
        self.assertIs(shows_prices(DAM, WORTHS, (1, 1)), True)
        self.check_prices(DAM, WORTHS, 28)

    def test_against_all_levels(self):
        for dam, worths in many_worths(600, 51):
            with self.subTest(dam=dam, worths=worths):
                best = best_another_way(dam, worths)
                if best is None:
                    self.assertEqual(error_of(water_prices, dam, worths), ("NoPlan", {}))
                    self.assertEqual(error_of(shows_prices, dam, worths, None), ("NoPlan", {}))
                else:
                    self.check_prices(dam, worths, best)

    def test_edges(self):
        self.check_prices((0, 0, 0, (5,)), ((),), 0)
        self.check_prices((0, 0, 0, (0,)), (((1, 1000),),), 0)
        self.check_prices((0, 0, 0, (0, 0)), ((), ((1, 1000),)), 0)
        self.check_prices((3, 0, 2, (5, 0)), ((), ((9, 9),)), 9)
        self.check_prices((1000, 1000, 0, (1000,) * 12), (((1000, 1000),),) * 12, 12 * 10 ** 6)
        self.check_prices((1000, 1000, 1000, (0,) * 12), (((1000, 1000), (1, 1)),) * 12, 0)
        for dam in JUST_PLAN_DAMS:
            self.check_prices(dam, WORTHS, best_another_way(dam, WORTHS))

    def test_shows_all_small_prices(self):
        for dam, worths in (
            (DAM, WORTHS), ((2, 1, 0, (1, 2)), (((1, 3),), ((2, 3), (1, 1)))), ((0, 0, 0, (1, 0)), (((1, 4),), ())),
            ((3, 3, 3, (0, 0)), (((1, 4), (1, 2)), ((1, 3),))), ((2, 0, 1, (3,)), (((1, 5), (1, 3), (1, 2)),)),
            ((1, 1, 0, (0, 2, 0)), (((1, 1),), ((1, 2),), ((2, 3),))), ((3, 1, 2, (1, 1)), ((), ())),
        ):
            best = best_another_way(dam, worths)
            right, others = [], []
            for prices in itertools.product(range(-1, 7), repeat=len(worths)):
                is_right = min(prices) >= 0 and bound(dam, worths, prices) == best
                (right if is_right else others).append(prices)
            for prices in list(right[:5]):
                others.extend((
                    list(prices), prices + (0,), prices[1:], (str(prices[0]), *prices[1:]), (*prices[:-1], None),
                    (bool(prices[0]), *prices[1:]), ((prices[0], 1), *prices[1:]), tuple((p, 1) for p in prices),
                    dict(enumerate(prices)), str(prices),
                ))
                high = (*prices[:-1], prices[-1] + 10 ** 40)
                (right if bound(dam, worths, high) == best else others).append(high)
            others = [value for value in others if repr(value) not in set(map(repr, right))]
            self.assertTrue(right)
            check_shows(self, shows_prices, (dam, worths), right, others)

    def test_wrong_arguments(self):
        calls = ((water_prices, ()), (worth_of_room, ()), (shows_prices, (None,)), (worth_of_water, (0,)))
        for function, args in calls:
            check_worths_refused(self, function, args)


class WorthOfMoreTest(unittest.TestCase):
    def test_examples(self):
        self.assertEqual(worth_of_water(DAM, WORTHS, 0), 1)
        self.assertEqual(worth_of_room(DAM, WORTHS), 0)

    def test_against_the_greater_dam(self):
        for dam, worths in many_worths(300, 52):
            best = best_another_way(dam, worths)
            if best is None:
                self.assertEqual(error_of(worth_of_room, dam, worths), ("NoPlan", {}))
                self.assertEqual(error_of(worth_of_water, dam, worths, 0), ("NoPlan", {}))
                continue
            capacity, start, end, inflows = dam
            with self.subTest(dam=dam, worths=worths):
                wider = best_another_way((capacity + 1, start, end, inflows), worths)
                self.assertEqual(worth_of_room(dam, worths), wider - best)
                for month in sorted({0, len(inflows) // 2, len(inflows) - 1}):
                    more = list(inflows)
                    more[month] += 1
                    wetter = best_another_way((capacity, start, end, tuple(more)), worths)
                    self.assertEqual(worth_of_water(dam, worths, month), wetter - best)

    def test_edges(self):
        worths = (((1, 7),), ((1, 1000),))
        self.assertEqual([worth_of_water((0, 0, 0, (0, 0)), worths, month) for month in (0, 1)], [7, 1000])
        self.assertEqual(worth_of_room((0, 0, 0, (0, 0)), worths), 0)
        self.assertEqual(worth_of_room((0, 0, 0, (1, 0)), worths), 993)
        self.assertEqual(worth_of_room((0, 0, 0, (2, 0)), worths), 1000)
        self.assertEqual(worth_of_water((0, 0, 0, (1, 1)), worths, 0), 0)
        self.assertEqual(worth_of_water((1000, 0, 0, (1000,)), (((1000, 3), (1, 2)),), 0), 2)
        self.assertEqual(worth_of_room((1000, 0, 0, (1000, 0)), ((), ((1000, 2),))), 0)
        self.assertEqual(worth_of_room((1000, 1, 0, (1000, 0)), ((), ((1000, 2), (1, 1)))), 1)
        for dam in JUST_PLAN_DAMS:
            capacity, start, end, inflows = dam
            wider = best_another_way((capacity + 1, start, end, inflows), WORTHS)
            self.assertEqual(worth_of_room(dam, WORTHS), wider - best_another_way(dam, WORTHS))

    def test_wrong_months(self):
        for dam in (DAM, NO_PLAN_DAMS[0]):
            check_refused(self, worth_of_water, (dam, WORTHS, 0), 2, "BadMonth", BAD_MONTHS)


if __name__ == "__main__":
    unittest.main()
