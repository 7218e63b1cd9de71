"""Round years: months that come again and again, as much held before the first one as behind the last one."""

from damworks.dams import check_capacity, check_inflows
from damworks.prices import bound_of_prices, is_prices
from damworks.worths import best_levels, check_worths, greatest_worth, level_curves, releases_between

MOST_CAPACITY = 60


def check_round(capacity, inflows, worths):
    """Raise the error of the first argument that is wrong."""
    check_capacity(capacity, MOST_CAPACITY)
    check_inflows(inflows)
    check_worths(worths, len(inflows))


def dam_of_year(capacity, inflows, level):
    """The dam of a year that begins and ends with a level; what it holds more in the end can be let go as well."""
    return (capacity, level, level, inflows)


def found_round(capacity, inflows, worths):
    """The greatest worth of a year and the least level with it, of arguments that are known to be right."""
    found = [(greatest_worth(dam_of_year(capacity, inflows, level), worths), level) for level in range(capacity + 1)]
    best = max([worth for worth, _ in found])
    return (best, [level for worth, level in found if worth == best][0])


def round_worth(capacity, inflows, worths):
    """The greatest worth of a year's plan, and the least level before the first month with it."""
    check_round(capacity, inflows, worths)
    return found_round(capacity, inflows, worths)


def best_year(capacity, inflows, worths):
    """What is held before each month, and behind the last one, in a best year."""
    _, level = found_round(capacity, inflows, worths)
    curves = level_curves(dam_of_year(capacity, inflows, level), worths)
    return [level] + best_levels(level, inflows, worths, curves)[:-1] + [level]


def price_of_more(pairs, release):
    """What one unit more than a release is worth."""
    left = release
    for amount, price in pairs:
        if left < amount:
            return price
        left -= amount
    return 0


def round_prices(capacity, inflows, worths):
    """Prices whose round bound is the greatest worth of a year."""
    check_round(capacity, inflows, worths)
    held = best_year(capacity, inflows, worths)
    releases = releases_between(held[0], inflows, held[1:])
    prices = [price_of_more(pairs, release) for pairs, release in zip(worths, releases)]
    # One unit more is worth as much as in the best month that it can be brought to: on into a dam that has room, or
    # back by holding less. No way to such a month is longer than the year.
    for _ in inflows:
        for month in range(len(inflows)):
            if held[month] < capacity:
                prices[month - 1] = max(prices[month - 1], prices[month])
            if held[month] > 0:
                prices[month] = max(prices[month], prices[month - 1])
    return tuple(prices)


def round_bound(capacity, inflows, worths, prices):
    """The round bound of some prices, which no year's plan is worth more than."""
    last_step = max(0, prices[0] - prices[-1])
    return bound_of_prices((capacity, 0, 0, inflows), worths, prices) + capacity * last_step


def shows_round(capacity, inflows, worths, value):
    """Whether the value is prices whose round bound is the greatest worth of a year."""
    worth, _ = round_worth(capacity, inflows, worths)
    return is_prices(value, len(inflows)) and round_bound(capacity, inflows, worths, value) == worth
