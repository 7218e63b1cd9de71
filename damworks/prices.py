"""What water is worth in each month: prices that show that no plan is worth more."""

from damworks.dams import check_has_plan
from damworks.errors import BadMonth
from damworks.ratios import is_between, is_whole
from damworks.worths import (
    best_levels, check_dam_and_worths, curve_in_month, greatest_worth, level_curves, part_of_steps
)


def price_of_unit(curve, unit):
    """What a unit of water, counted from 0, adds to the worth on a curve."""
    place = unit - curve[0]
    return part_of_steps(curve[2], place, place + 1)[0][0]


def nearest_price(curve, water, price):
    """Of the prices from that of one more unit of water to that of the last one, the nearest to a price."""
    nearest = max(price, price_of_unit(curve, water))
    # Below the least water there is no plan: no price is too high there.
    if water == curve[0]:
        return nearest
    return min(nearest, price_of_unit(curve, water - 1))


def prices_on_curves(start, inflows, worths, curves):
    """Prices whose bound is the best worth, by the curves of what is held."""
    held = start
    price = 0
    prices = []
    for inflow, pairs, curve, kept in zip(inflows, worths, curves[1:], best_levels(start, inflows, worths, curves)):
        in_month = curve_in_month(curve, pairs, held + inflow)
        # A price that changes no more than it must rises only over a full dam and falls only over an empty one.
        price = nearest_price(in_month, held + inflow, price)
        prices.append(price)
        held = kept
    return tuple(prices)


def found_prices(dam, worths):
    """Prices whose bound is the best worth of a dam that is known to have a plan."""
    return prices_on_curves(dam[1], dam[3], worths, level_curves(dam, worths))


def water_prices(dam, worths):
    """Prices whose bound is the best worth."""
    check_dam_and_worths(dam, worths)
    check_has_plan(dam)
    return found_prices(dam, worths)


def bound_of_prices(dam, worths, prices):
    """The bound of some prices, which no plan is worth more than."""
    capacity, start, end, inflows = dam
    bound = start * prices[0] - end * prices[-1]
    for inflow, pairs, price in zip(inflows, worths, prices):
        bound += inflow * price
        bound += sum([amount * max(0, paid - price) for amount, paid in pairs])
    for before, price in zip(prices, prices[1:]):
        bound += capacity * max(0, price - before)
    return bound


def is_prices(value, months):
    """Whether the value is a tuple with one price for each month."""
    if not (isinstance(value, tuple) and len(value) == months):
        return False
    return all(is_whole(price) and price >= 0 for price in value)


def shows_prices(dam, worths, value):
    """Whether the value is prices whose bound is the best worth."""
    check_dam_and_worths(dam, worths)
    check_has_plan(dam)
    return is_prices(value, len(worths)) and bound_of_prices(dam, worths, value) == greatest_worth(dam, worths)


def worth_of_water(dam, worths, month):
    """By how much the best worth would be greater with one more unit of inflow in a month."""
    check_dam_and_worths(dam, worths)
    if not is_between(month, 0, len(worths) - 1):
        raise BadMonth("not the index of a month")
    check_has_plan(dam)
    capacity, start, end, inflows = dam
    wetter = inflows[:month] + (inflows[month] + 1,) + inflows[month + 1:]
    return greatest_worth((capacity, start, end, wetter), worths) - greatest_worth(dam, worths)


def worth_of_room(dam, worths):
    """By how much the best worth would be greater with a capacity greater by one."""
    check_dam_and_worths(dam, worths)
    check_has_plan(dam)
    capacity, start, end, inflows = dam
    return greatest_worth((capacity + 1, start, end, inflows), worths) - greatest_worth(dam, worths)
