"""Months whose demands cannot all be given: how little they need to lack, and how few they can be."""

from itertools import combinations

from damworks.dams import check_dam, check_demands, run_months
from damworks.ratios import greatest_ratio, ratio
from damworks.yields import in_window, is_window, most_water, windows


def check_dam_and_demands(dam, demands):
    """Raise the error of the first argument that is wrong."""
    check_dam(dam)
    check_demands(demands, len(dam[3]))


def all_given(dam, demands):
    """What is given in each month if demands are given as far as water is there."""
    return tuple([month[0] for month in run_months(dam, demands)])


def total_lack(dam, demands):
    """The least sum of what demands lack."""
    check_dam_and_demands(dam, demands)
    return sum(demands) - sum(all_given(dam, demands))


def window_lack(dam, demands, window):
    """The least ratio, below 0 if there is water left, by which less has to be asked for in a window's months."""
    lack = -most_water(dam, window)
    lacks = []
    # What is asked for in excess of a ratio is greatest over just the demands that are greater than it.
    for count, demand in enumerate(sorted(in_window(demands, window), reverse=True), start=1):
        lack += demand
        lacks.append(ratio(lack, count))
    return greatest_ratio(lacks)


def found_lack(dam, demands):
    """The least lack of a dam and demands that are known to be right."""
    return greatest_ratio([(0, 1)] + [window_lack(dam, demands, window) for window in windows(len(demands))])


def least_lack(dam, demands):
    """The least ratio such that each demand less it can be given."""
    check_dam_and_demands(dam, demands)
    return found_lack(dam, demands)


def lack_paper(dam, demands):
    """A window that has just the water for its demands less the least lack, None if that is 0."""
    check_dam_and_demands(dam, demands)
    lack = found_lack(dam, demands)
    if lack == (0, 1):
        return None
    return [window for window in windows(len(demands)) if window_lack(dam, demands, window) == lack][0]


def is_just_enough(dam, demands, window, lack):
    """Whether the positive parts of a window's demands less the lack are all the water that it can have."""
    top, bottom = lack
    needed = sum([max(0, demand * bottom - top) for demand in in_window(demands, window)])
    return needed == most_water(dam, window) * bottom


def shows_lack(dam, demands, value):
    """Whether the value is a window that has just the water for its demands less the least lack, or rightly None."""
    check_dam_and_demands(dam, demands)
    lack = found_lack(dam, demands)
    if lack == (0, 1):
        return value is None
    return is_window(value, len(demands)) and is_just_enough(dam, demands, value, lack)


def is_enough_without(dam, demands, failing):
    """Whether all demands but those of the failing months can be given in full."""
    wanted = tuple([0 if month in failing else demand for month, demand in enumerate(demands)])
    return all_given(dam, wanted) == wanted


def first_failing(dam, demands, count):
    """The smallest ascending tuple of so many months that it is enough to give nothing in, None if there is none."""
    for failing in combinations(range(len(demands)), count):
        if is_enough_without(dam, demands, failing):
            return failing
    return None


def fewest_failures(dam, demands):
    """The least number of months that are not given their demands, and the smallest tuple of so many."""
    check_dam_and_demands(dam, demands)
    count = 0
    failing = first_failing(dam, demands, count)
    while failing is None:
        count += 1
        failing = first_failing(dam, demands, count)
    return (count, failing)
