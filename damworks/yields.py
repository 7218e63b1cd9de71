"""What a dam can give for sure in every month."""

from damworks.dams import check_capacity, check_dam, check_demands, check_has_plan, check_inflows
from damworks.errors import BadDemands
from damworks.ratios import is_row_between, least_ratio, ratio


def windows(months):
    """All pairs (first, last) of months, the first one not behind the last one."""
    return [(first, last) for first in range(months) for last in range(first, months)]


def is_window(value, months):
    """Whether the value is a pair (first, last) of months."""
    return is_row_between(value, 0, months - 1) and len(value) == 2 and value[0] <= value[1]


def in_window(amounts, window):
    """Those of the amounts, one for each month, that belong to the months of a window."""
    first, last = window
    return amounts[first:last + 1]


def most_water(dam, window):
    """What the months of a window can have at most, the end not looked at."""
    capacity, start, _, inflows = dam
    held = start if window[0] == 0 else capacity
    return held + sum(in_window(inflows, window))


def spare_water(dam, window):
    """What the months of a window can give away at most, the end held."""
    _, _, end, inflows = dam
    water = most_water(dam, window)
    return water - end if window[1] == len(inflows) - 1 else water


def window_yield(dam, window):
    """What a window can give at most in each of its months."""
    first, last = window
    return ratio(spare_water(dam, window), last - first + 1)


def firm_yield(dam):
    """The greatest ratio that can be given in every month."""
    check_dam(dam)
    check_has_plan(dam)
    return least_ratio([window_yield(dam, window) for window in windows(len(dam[3]))])


def yield_paper(dam):
    """A window that can give no more than the firm yield in each of its months."""
    firm = firm_yield(dam)
    return [window for window in windows(len(dam[3])) if window_yield(dam, window) == firm][0]


def shows_yield(dam, value):
    """Whether the value is a window that can give no more than the firm yield."""
    firm = firm_yield(dam)
    return is_window(value, len(dam[3])) and window_yield(dam, value) == firm


def firm_share(dam, demands):
    """The greatest ratio by which all demands can be multiplied and still be given."""
    check_dam(dam)
    check_demands(demands, len(dam[3]))
    if sum(demands) == 0:
        raise BadDemands("no demand is greater than 0")
    check_has_plan(dam)
    shares = []
    for window in windows(len(demands)):
        needed = sum(in_window(demands, window))
        if needed > 0:
            shares.append(ratio(spare_water(dam, window), needed))
    return least_ratio(shares)


def round_yield(capacity, inflows):
    """The greatest ratio that can be given in every month of years without an end, the dam full at some time."""
    check_capacity(capacity)
    check_inflows(inflows)
    months = len(inflows)
    twice = inflows + inflows
    # Rows of more than a whole turn give no less than the turn's mean or the row without the turn.
    yields = [ratio(sum(inflows), months)]
    for first in range(months):
        for count in range(1, months + 1):
            yields.append(ratio(capacity + sum(twice[first:first + count]), count))
    return least_ratio(yields)
