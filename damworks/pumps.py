"""Pump houses: water pumped up where power is cheap and let down where it is dear.

A pump house is like a dam whose inflow is all that the pump could bring, and in which what is not pumped up leaves at
once for the price that is saved. So the best ways of a dam are those of the pump house.
"""

from damworks.errors import BadHouse, BadPrices
from damworks.prices import found_prices
from damworks.ratios import (
    excess, is_between, is_less, is_ratio, is_row_between, is_row_of_ratios, minus, plus, ratio, sum_of_ratios, times
)
from damworks.worths import best_releases, greatest_worth

MOST_WATER = 1000
MOST_PRICE = 1000
MOST_OF_SHARE = 100
MOST_PRICES = 6


def is_share(value):
    """Whether the value is the share of a price that is brought by what is let down."""
    return is_ratio(value) and 0 < value[0] <= value[1] <= MOST_OF_SHARE


def is_house(value):
    """Whether the value is a pump house."""
    if not (isinstance(value, tuple) and len(value) == 4):
        return False
    capacity, up, down, share = value
    return is_between(capacity, 0, MOST_WATER) and is_row_between((up, down), 1, MOST_WATER) and is_share(share)


def check_house_and_prices(house, prices):
    """Raise the error of the first argument that is wrong."""
    if not is_house(house):
        raise BadHouse("not a pump house")
    if not (is_row_between(prices, 0, MOST_PRICE) and 1 <= len(prices) <= MOST_PRICES):
        raise BadPrices("not a tuple of power prices")


def like_dam(house, prices):
    """The dam that is like a pump house, and its worths, all times the bottom of the share."""
    capacity, up, down, (top, bottom) = house
    dam = (capacity, 0, 0, (up,) * len(prices))
    return dam, tuple([((up, price * bottom), (down, price * top)) for price in prices])


def found_profit(house, prices):
    """The greatest profit of a house and prices that are known to be right."""
    _, up, _, (_, bottom) = house
    dam, worths = like_dam(house, prices)
    return ratio(greatest_worth(dam, worths) - up * bottom * sum(prices), bottom)


def pump_profit(house, prices):
    """The greatest sum of what is brought less what is paid."""
    check_house_and_prices(house, prices)
    return found_profit(house, prices)


def pump_plan(house, prices):
    """What is pumped up and what is let down in each month, for the greatest profit."""
    check_house_and_prices(house, prices)
    dam, worths = like_dam(house, prices)
    pumped = []
    let_down = []
    for release in best_releases(dam, worths):
        # Not to pump saves no less than to let down brings.
        saved = min(house[1], release)
        pumped.append((house[1] - saved, 1))
        let_down.append((release - saved, 1))
    return (tuple(pumped), tuple(let_down))


def basin_values(house, prices):
    """Values of water in the basin whose bound is the greatest profit."""
    check_house_and_prices(house, prices)
    dam, worths = like_dam(house, prices)
    return tuple([ratio(price, house[3][1]) for price in found_prices(dam, worths)])


def is_pumping(house, months, value):
    """Whether the value is a pair of what can be pumped up and let down in so many months."""
    if not (isinstance(value, tuple) and len(value) == 2 and all(is_row_of_ratios(row, months) for row in value)):
        return False
    capacity, up, down, _ = house
    held = (0, 1)
    for pumped, let_down in zip(value[0], value[1]):
        held = minus(plus(held, pumped), let_down)
        if is_less((up, 1), pumped) or is_less((down, 1), let_down):
            return False
        if is_less(held, (0, 1)) or is_less((capacity, 1), held):
            return False
    return True


def profit_of(house, prices, pumping):
    """What a pair of rows of amounts brings less what is paid for it."""
    profit = (0, 1)
    for price, pumped, let_down in zip(prices, pumping[0], pumping[1]):
        brought = times(let_down, times((price, 1), house[3]))
        profit = plus(profit, minus(brought, times(pumped, (price, 1))))
    return profit


def shows_pumping(house, prices, value):
    """Whether the value is a pair of what is pumped up and let down with the greatest profit."""
    profit = pump_profit(house, prices)
    return is_pumping(house, len(prices), value) and profit_of(house, prices, value) == profit


def bound_of_values(house, prices, values):
    """The bound of some values, which no plan brings more than."""
    capacity, up, down, share = house
    parts = []
    for price, worth, behind in zip(prices, values, values[1:] + ((0, 1),)):
        parts.append(times((up, 1), excess(worth, (price, 1))))
        parts.append(times((down, 1), excess(times(share, (price, 1)), worth)))
        parts.append(times((capacity, 1), excess(behind, worth)))
    return sum_of_ratios(parts)


def shows_values(house, prices, value):
    """Whether the value is values whose bound is the greatest profit."""
    profit = pump_profit(house, prices)
    return is_row_of_ratios(value, len(prices)) and bound_of_values(house, prices, value) == profit
