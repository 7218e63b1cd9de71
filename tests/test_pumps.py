"""Point 12: pump houses, power prices, plans and values."""

import itertools
import random
import unittest
from fractions import Fraction

from damworks.pumps import basin_values, pump_plan, pump_profit, shows_pumping, shows_values
from tests.helpers import (
    BAD_RATIOS, KINDS, check_refused, check_shows, fraction, fractions, near_ratios, ratios,
)

HOUSE = (5, 2, 3, (1, 2))
PRICES = (1, 9)
FUNCTIONS = ((pump_profit, ()), (pump_plan, ()), (basin_values, ()), (shows_pumping, (None,)), (shows_values, (None,)))

BAD_HOUSES = KINDS + (
    [5, 2, 3, (1, 2)], (5, 2, 3), (5, 2, 3, (1, 2), 1), {5: 2}, (True, 2, 3, (1, 2)), (5, True, 3, (1, 2)),
    (5, 2, True, (1, 2)), (-1, 2, 3, (1, 2)), (1001, 2, 3, (1, 2)), (5, 0, 3, (1, 2)), (5, 1001, 3, (1, 2)),
    (5, 2, 0, (1, 2)), (5, 2, 1001, (1, 2)), ("5", 2, 3, (1, 2)), (5, None, 3, (1, 2)), (5, 2, (3,), (1, 2)),
    (5, 2, 3, (0, 1)), (5, 2, 3, (-1, 2)), (5, 2, 3, (2, 1)), (5, 2, 3, (3, 2)), (5, 2, 3, (1, 101)),
    (5, 2, 3, (100, 101)), (5, -2, 3, (1, 2)),
) + tuple((5, 2, 3, share) for share in BAD_RATIOS if repr(share) != "(1, 2)")

BAD_PRICES = (
    None, True, 1, "19", "", (), [1, 9], {1: 9}, (True, 9), (1, False), (1, None), (1, "9"), (1, (9,)), (1, [9]),
    (-1, 9), (1, 1001), (1,) * 7, ((1, 9),), (1, 9, 10 ** 30), ((1, 1), (9, 1)),
)


def profit_another_way(house, prices):
    """The greatest profit of all plans of integers."""
    capacity, up, down, share = house
    best = {0: Fraction(0)}
    for price in prices:
        after = {}
        for held, profit in best.items():
            for pumped, let_down in itertools.product(range(up + 1), range(down + 1)):
                kept = held + pumped - let_down
                if 0 <= kept <= capacity:
                    found = profit + price * (Fraction(*share) * let_down - pumped)
                    after[kept] = max(found, after.get(kept, found))
        best = after
    return max(best.values())


def bound(house, prices, values):
    """The bound of values, by the words of the point."""
    capacity, up, down, share = house
    found = Fraction(0)
    for month, price in enumerate(prices):
        following = values[month + 1] if month + 1 < len(prices) else 0
        found += up * max(0, values[month] - price)
        found += down * max(0, Fraction(*share) * price - values[month])
        found += capacity * max(0, following - values[month])
    return found


def pumpings(house, months, parts):
    """All pairs of rows of multiples of a part of one that a house can pump and let down, as fractions."""
    capacity, up, down, _ = house
    found = []
    rows = [[Fraction(number, parts) for number in range(most * parts + 1)] for most in (up, down)]
    for pumped in itertools.product(rows[0], repeat=months):
        for let_down in itertools.product(rows[1], repeat=months):
            held = list(itertools.accumulate(one - other for one, other in zip(pumped, let_down)))
            if min(held) >= 0 and max(held) <= capacity:
                found.append((pumped, let_down))
    return found


def profit_of(house, prices, pumping):
    """What a pair of rows brings."""
    pumped, let_down = pumping
    return sum(price * (Fraction(*house[3]) * down - up) for price, up, down in zip(prices, pumped, let_down))


def some_houses(many, seed):
    """Houses with prices."""
    dice = random.Random(seed)
    for _ in range(many):
        share = Fraction(dice.randint(1, 4), 4) if dice.randint(0, 1) else Fraction(dice.randint(1, 100), 100)
        house = (dice.choice((0, 1, 2, 5, 9)), dice.randint(1, 4), dice.randint(1, 4), ratios([share])[0])
        most = dice.choice((1, 5, 30, 1000))
        yield house, tuple(dice.randint(0, most) for _ in range(dice.randint(1, 6)))


class PumpTest(unittest.TestCase):
    def check_answers(self, house, prices, best):
        self.assertEqual(fraction(pump_profit(house, prices)), best)
        plan = pump_plan(house, prices)
        self.assertEqual((type(plan), len(plan)), (tuple, 2))
        pumped, let_down = fractions(plan[0]), fractions(plan[1])
        self.assertEqual((len(pumped), len(let_down)), (len(prices), len(prices)))
        held = 0
        for up, down in zip(pumped, let_down):
            self.assertTrue(0 <= up <= house[1] and 0 <= down <= house[2])
            held += up - down
            self.assertTrue(0 <= held <= house[0])
        self.assertEqual(profit_of(house, prices, (pumped, let_down)), best)
        values = fractions(basin_values(house, prices))
        self.assertEqual(len(values), len(prices))
        self.assertGreaterEqual(min(values), 0)
        self.assertEqual(bound(house, prices, values), best)
        self.assertIs(shows_pumping(house, prices, plan), True)
        self.assertIs(shows_values(house, prices, ratios(values)), True)

    def test_example(self):
        self.assertEqual(pump_profit(HOUSE, PRICES), (7, 1))
        self.assertEqual(pump_plan(HOUSE, PRICES), (((2, 1), (0, 1)), ((0, 1), (2, 1))))
        self.check_answers(HOUSE, PRICES, 7)

    def test_against_all_plans(self):
        profits = 0
        for house, prices in some_houses(500, 81):
            with self.subTest(house=house, prices=prices):
                best = profit_another_way(house, prices)
                profits += best > 0
                self.check_answers(house, prices, best)
        self.assertGreater(profits, 150)

    def test_edges(self):
        self.check_answers((0, 9, 9, (1, 1)), (0, 1000, 0, 1000, 0, 1000), 0)
        self.check_answers((5, 1, 1, (1, 100)), (7,), 0)
        self.check_answers((1000, 1000, 1000, (1, 1)), (0, 1000) * 3, 3 * 10 ** 6)
        self.check_answers((1000, 1000, 1000, (99, 100)), (0, 1000) * 3, 3 * 990000)
        self.check_answers((3, 2, 1, (1, 1)), (0, 0, 0, 4, 4, 4), 12)
        self.check_answers((3, 2, 1, (1, 1)), (1, 1, 1, 1, 1, 1), 0)
        # Only a share of 1 brings as much as is paid for a price that stays.
        self.check_answers((3, 2, 1, (1, 2)), (4, 8), 0)
        self.check_answers((3, 2, 2, (1, 2)), (4, 9), 1)

    def test_prices_that_only_fall(self):
        for prices in ((9, 8), (1000, 500, 20, 3, 1, 0), (3, 2, 2), (0, 0)):
            self.check_answers((5, 2, 3, (1, 1)), prices, 0)
            self.check_answers((5, 2, 3, (9, 10)), prices, 0)

    def test_wrong_arguments(self):
        for function, args in FUNCTIONS:
            check_refused(self, function, (HOUSE, PRICES) + args, 0, "BadHouse", BAD_HOUSES)
            check_refused(self, function, (HOUSE, PRICES) + args, 1, "BadPrices", BAD_PRICES)

    def test_kinds_as_prices(self):
        wrong = [value for value in KINDS if repr(value) not in ("(0,)", "(1, 2)", "(0, 1, 2, 3)")]
        check_refused(self, pump_profit, (HOUSE, PRICES), 1, "BadPrices", wrong)


class ShowsTest(unittest.TestCase):
    def check_pumping(self, house, prices):
        best = profit_another_way(house, prices)
        right, others = [], []
        for pumping in pumpings(house, len(prices), 2):
            value = (ratios(pumping[0]), ratios(pumping[1]))
            (right if profit_of(house, prices, pumping) == best else others).append(value)
        for pumped, let_down in right[:1] + right[-1:]:
            others.extend((row, let_down) for row in near_ratios(pumped))
            others.extend((pumped, row) for row in near_ratios(let_down))
            others.extend((
                [pumped, let_down], (pumped,), (pumped, let_down, pumped), {pumped: let_down}, pumped + let_down,
                (pumped[1:], let_down[1:]), (pumped + ((0, 1),), let_down + ((0, 1),)), (pumped, None),
                (((house[1] + 1, 1),) + pumped[1:], ((house[1] + 1, 1),) + let_down[1:]),
                (((house[2] + 1, 1),) + pumped[1:], ((house[2] + 1, 1),) + let_down[1:]),
                (pumped, ((1, 1),) + let_down[1:]) if (pumped, ((1, 1),) + let_down[1:]) not in right else (),
                (((0, 1),) * (len(prices) - 1) + ((-1, 1),), ((0, 1),) * len(prices)),
                (((0, 1),) * len(prices), ((0, 1),) * (len(prices) - 1) + ((1, 1),)),
                (((0, 1),) * len(prices), ((0, 1),) * (len(prices) - 1) + ((-1, 1),)),
            ))
        check_shows(self, shows_pumping, (house, prices), right, others)
        self.assertTrue(right)

    def test_pumping(self):
        self.check_pumping((1, 1, 1, (1, 2)), (1, 9))
        self.check_pumping((1, 2, 1, (1, 1)), (2, 2))
        self.check_pumping((0, 1, 1, (1, 1)), (3,))
        self.check_pumping((0, 1, 1, (1, 2)), (0, 3))
        self.check_pumping((2, 1, 2, (1, 2)), (9, 1))
        self.check_pumping((1, 1, 1, (1, 1)), (1, 3, 3))

    def test_all_halves_within_the_bounds_and_beyond(self):
        for house in ((1, 1, 2, (1, 1)), (1, 2, 1, (1, 1)), (0, 2, 2, (1, 1)), (2, 1, 1, (1, 1))):
            right, others = [], []
            halves = [Fraction(number, 2) for number in range(-1, 6)]
            within = [ratios(one) + ratios(other) for one, other in pumpings(house, 2, 2) if sum(one) == sum(other)]
            for amounts in itertools.product(halves, repeat=4):
                value = ratios(amounts)
                (right if value in within else others).append((value[:2], value[2:]))
            # Prices that stay bring nothing, however much is pumped up and let down again.
            self.assertEqual(len(right), len(within))
            check_shows(self, shows_pumping, (house, (2, 2)), right, others)

    def test_pumping_thirds(self):
        house, prices = (1, 1, 1, (1, 1)), (2, 2)
        self.assertIs(shows_pumping(house, prices, (((1, 3), (0, 1)), ((1, 3), (0, 1)))), True)
        self.assertIs(shows_pumping(house, prices, (((1, 3), (0, 1)), ((0, 1), (1, 3)))), True)
        self.assertIs(shows_pumping(house, prices, (((1, 3), (0, 1)), ((0, 1), (1, 2)))), False)
        self.assertIs(shows_pumping(house, prices, (((1, 3), (0, 1)), ((0, 1), (1, 4)))), False)

    def check_values(self, house, prices):
        best = profit_another_way(house, prices)
        right, others = [], []
        for numbers in itertools.product(range(-1, 13), repeat=len(prices)):
            values = [Fraction(number, house[3][1]) for number in numbers]
            is_right = min(values) >= 0 and bound(house, prices, values) == best
            (right if is_right else others).append(ratios(values))
        for values in right[:1] + right[-1:]:
            others.extend(near_ratios(values))
            others.extend((values[1:], values + ((0, 1),), tuple(top for top, _ in values)))
            far = values[:-1] + ((10 ** 40, 1),)
            (right if bound(house, prices, [Fraction(*one) for one in far]) == best else others).append(far)
        self.assertTrue(right)
        check_shows(self, shows_values, (house, prices), right, others)

    def test_values(self):
        self.check_values((1, 1, 1, (1, 2)), (1, 9))
        self.check_values((2, 2, 1, (1, 1)), (2, 2))
        self.check_values((0, 1, 1, (1, 1)), (3,))
        self.check_values((0, 1, 1, (1, 2)), (0, 3))
        self.check_values((5, 2, 3, (1, 2)), (1, 9))
        self.check_values((1, 1, 2, (1, 3)), (5, 1, 4))
        self.check_values((5, 2, 3, (1, 2)), (0, 0))

    def test_values_of_thirds(self):
        self.assertIs(shows_values((5, 2, 3, (1, 3)), (1, 1), ((1, 3), (1, 3))), True)
        self.assertIs(shows_values((5, 2, 3, (1, 3)), (1, 1), ((2, 3), (1, 3))), True)
        self.assertIs(shows_values((5, 2, 3, (1, 3)), (1, 1), ((1, 3), (2, 3))), False)
        self.assertIs(shows_values((5, 2, 3, (1, 3)), (1, 1), ((1, 4), (1, 4))), False)


if __name__ == "__main__":
    unittest.main()
