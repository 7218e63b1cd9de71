"""Even plans, the least peak of all plans, and which of two rows of numbers is evener."""

from damworks.dams import MOST_MONTHS, check_dam, check_has_plan, is_plan
from damworks.errors import BadNumbers
from damworks.ratios import common_bottom, greatest_ratio, is_ratio, ratio, top_over
from damworks.yields import in_window, is_window, windows

MOST_OF_NUMBER = 1000000


def left_bounds(dam):
    """The least and the most that can have left before each month, and, in both, what has left behind the last one.

    What has left behind the last month is what makes the dam hold just its end.
    """
    capacity, come, end, inflows = dam
    lows = [come - capacity]
    highs = [come]
    for inflow in inflows:
        come += inflow
        lows.append(come - capacity)
        highs.append(come)
    lows[-1] = highs[-1] = come - end
    return lows, highs


def is_steeper(bend, one, other):
    """Whether a way from a bend to a later one releases more in a month than the way to another one."""
    month, left = bend
    return (one[1] - left) * (other[0] - month) > (other[1] - left) * (one[0] - month)


def next_bend(lows, highs, bend):
    """The end of the longest way from a bend on that releases the same in each month and keeps an even plan even.

    A bend is a pair (month, what has left before it). A way of one size must be steep enough for all lows and flat
    enough for all highs that it passes; where none is, the even one goes to the bound that stands most in the way.
    """
    low_bend = None
    high_bend = None
    for month in range(bend[0] + 1, len(lows)):
        low, high = (month, lows[month]), (month, highs[month])
        if high_bend is not None and is_steeper(bend, low, high_bend):
            return high_bend
        if low_bend is not None and is_steeper(bend, low_bend, high):
            return low_bend
        if low_bend is None or not is_steeper(bend, low_bend, low):
            low_bend = low
        if high_bend is None or not is_steeper(bend, high, high_bend):
            high_bend = high
    return low_bend


def found_even(dam):
    """The even plan of a dam that is known to have a plan."""
    lows, highs = left_bounds(dam)
    bend = (0, 0)
    releases = []
    while len(releases) < len(dam[3]):
        behind = next_bend(lows, highs, bend)
        months = behind[0] - bend[0]
        releases.extend([ratio(behind[1] - bend[1], months)] * months)
        bend = behind
    return tuple(releases)


def even_plan(dam):
    """The plan that holds just the end and whose releases change only where the dam is empty or full."""
    check_dam(dam)
    check_has_plan(dam)
    return found_even(dam)


def shows_even(dam, value):
    """Whether the value is the even plan."""
    even = even_plan(dam)
    return is_plan(dam, value) and value == even


def window_peak(dam, window):
    """The least that can be the greatest release in a window's months, below 0 if nothing must leave in them."""
    capacity, start, _, inflows = dam
    first, last = window
    held = start if first == 0 else 0
    return ratio(held + sum(in_window(inflows, window)) - capacity, last - first + 1)


def least_peak(dam):
    """The least ratio that the greatest release of a plan can be."""
    check_dam(dam)
    check_has_plan(dam)
    return greatest_ratio([(0, 1)] + [window_peak(dam, window) for window in windows(len(dam[3]))])


def peak_paper(dam):
    """A window that must release the least peak in some month, None if that is 0."""
    peak = least_peak(dam)
    if peak == (0, 1):
        return None
    return [window for window in windows(len(dam[3])) if window_peak(dam, window) == peak][0]


def shows_peak(dam, value):
    """Whether the value is a window that must release the least peak in some month, or rightly None."""
    peak = least_peak(dam)
    if peak == (0, 1):
        return value is None
    return is_window(value, len(dam[3])) and window_peak(dam, value) == peak


def is_number(value):
    """Whether the value is a ratio that can be compared."""
    if not is_ratio(value):
        return False
    top, bottom = value
    return bottom <= MOST_OF_NUMBER and abs(top) <= MOST_OF_NUMBER * bottom


def check_numbers(numbers):
    """Raise BadNumbers unless the value is a tuple of ratios that can be compared."""
    if not (isinstance(numbers, tuple) and 1 <= len(numbers) <= MOST_MONTHS):
        raise BadNumbers("not a tuple of 1 to 12 things")
    if not all(is_number(number) for number in numbers):
        raise BadNumbers("not all are ratios in the range")


def is_evener(one, other):
    """Whether both have the same sum, and so many greatest ones of the first never more than those of the second."""
    check_numbers(one)
    check_numbers(other)
    if len(one) != len(other):
        raise BadNumbers("not equally many")
    common = common_bottom(one + other)
    tops = sorted([top_over(number, common) for number in one], reverse=True)
    other_tops = sorted([top_over(number, common) for number in other], reverse=True)
    if sum(tops) != sum(other_tops):
        return False
    return all([sum(tops[:count]) <= sum(other_tops[:count]) for count in range(1, len(tops))])
