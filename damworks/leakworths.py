"""Leaking dams that earn: the leak plans that are worth most, and prices that show it.

Water is counted in parts, the more of them to a unit the later its month is, so that as many parts are held before a
loss as behind it. So counted, a leaking dam is like one that loses nothing and whose capacity grows, and its curves
(see damworks/worths.py) have whole numbers if what the parts are worth is brought to one bottom, too.
"""

from damworks.errors import NoPlan, TooMany
from damworks.leaks import check_leaking, kept_share, leak_run
from damworks.prices import prices_on_curves
from damworks.ratios import divided, excess, is_less, is_row_of_ratios, minus, plus, ratio, sum_of_ratios, times
from damworks.worths import (
    best_levels, check_worths, curves_of_levels, releases_between, releases_worth, worth_on_curve
)

MOST_MONTHS = 5
MOST_PAIRS = 2


def check_leak_worths(dam, loss, worths):
    """Raise the error of the first argument that is wrong, then TooMany, and NoPlan behind all."""
    check_leaking(dam, loss)
    months = len(dam[3])
    check_worths(worths, months)
    check_worths(worths, months, MOST_PAIRS)
    if months > MOST_MONTHS:
        raise TooMany(MOST_MONTHS)
    if leak_run(dam, loss, (0, 1)) is None:
        raise NoPlan("the end cannot be held")


def parts_of_units(share, months):
    """How many parts a unit of water is in each month, and behind the last one."""
    top, bottom = share
    parts = [1]
    for _ in range(months):
        parts = [part * top for part in parts] + [parts[-1] * bottom]
    return parts


def bottom_of_worths(parts):
    """The bottom to which all that the parts are worth is brought."""
    return parts[0] * parts[-1]


def counted_in_parts(dam, loss, worths):
    """The parts of a unit in each month and, counted in parts, the start, the inflows, the worths and the curves."""
    capacity, start, end, inflows = dam
    parts = parts_of_units(kept_share(loss), len(inflows))
    common = bottom_of_worths(parts)
    waters = [inflow * part for inflow, part in zip(inflows, parts)]
    sold = [
        [(amount * part, price * common // part) for amount, price in pairs] for pairs, part in zip(worths, parts)
    ]
    # What is held before a month is bounded in the parts of the month before.
    capacities = [capacity * part for part in parts[:1] + parts[:-1]]
    return parts, start * parts[0], waters, sold, curves_of_levels(capacities, end * parts[-1], waters, sold)


def found_worth(dam, loss, worths):
    """The greatest worth of arguments that are known to be right."""
    parts, start, _, _, curves = counted_in_parts(dam, loss, worths)
    return ratio(worth_on_curve(curves[0], start), bottom_of_worths(parts))


def leak_worth(dam, loss, worths):
    """The greatest worth of all leak plans."""
    check_leak_worths(dam, loss, worths)
    return found_worth(dam, loss, worths)


def leak_plan(dam, loss, worths):
    """A leak plan of the greatest worth."""
    check_leak_worths(dam, loss, worths)
    parts, start, waters, sold, curves = counted_in_parts(dam, loss, worths)
    releases = releases_between(start, waters, best_levels(start, waters, sold, curves))
    return tuple([ratio(release, part) for release, part in zip(releases, parts)])


def leak_prices(dam, loss, worths):
    """Prices whose bound is the greatest worth."""
    check_leak_worths(dam, loss, worths)
    parts, start, waters, sold, curves = counted_in_parts(dam, loss, worths)
    prices = prices_on_curves(start, waters, sold, curves)
    return tuple([ratio(price * part, bottom_of_worths(parts)) for price, part in zip(prices, parts)])


def is_leak_plan(dam, loss, value):
    """Whether the value is a leak plan."""
    capacity, start, end, inflows = dam
    if not is_row_of_ratios(value, len(inflows)):
        return False
    held = (start, 1)
    for inflow, release in zip(inflows, value):
        left = minus(plus(held, (inflow, 1)), release)
        if left[0] < 0 or is_less((capacity, 1), left):
            return False
        held = times(left, kept_share(loss))
    return not is_less(held, (end, 1))


def shows_leak_plan(dam, loss, worths, value):
    """Whether the value is a leak plan of the greatest worth."""
    check_leak_worths(dam, loss, worths)
    return is_leak_plan(dam, loss, value) and releases_worth(worths, value) == found_worth(dam, loss, worths)


def bound_of_leak_prices(dam, loss, worths, prices):
    """The bound of some prices, which no leak plan is worth more than."""
    capacity, start, end, inflows = dam
    share = kept_share(loss)
    bounds = [times((start, 1), prices[0])]
    for inflow, pairs, price in zip(inflows, worths, prices):
        bounds.append(times((inflow, 1), price))
        bounds.extend([times((amount, 1), excess((paid, 1), price)) for amount, paid in pairs])
    for before, price in zip(prices, prices[1:]):
        bounds.append(times((capacity, 1), excess(times(share, price), before)))
    return minus(sum_of_ratios(bounds), times(divided((end, 1), share), prices[-1]))


def shows_leak_prices(dam, loss, worths, value):
    """Whether the value is prices whose bound is the greatest worth."""
    check_leak_worths(dam, loss, worths)
    if not is_row_of_ratios(value, len(worths)):
        return False
    return bound_of_leak_prices(dam, loss, worths, value) == found_worth(dam, loss, worths)
