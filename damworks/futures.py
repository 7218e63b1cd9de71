"""Futures: months of which only the chances are known ahead, and what water is worth then.

All chances of ways are brought to one bottom, and all prices are counted in parts of it, so that the curves (see
damworks/worths.py) have whole numbers.
"""

from damworks.dams import MOST_WATER, is_dam
from damworks.errors import BadFutures, BadHolder, NoPlan
from damworks.prices import nearest_price, price_of_unit
from damworks.ratios import (
    common_bottom, excess, is_between, is_less, is_ratio, is_row_of_ratios, minus, plus, ratio, sum_of_ratios, times,
    top_over
)
from damworks.worths import (
    best_hold, check_worths, curve_before, curve_in_month, greatest_worth, release_worth, worth_on_curve
)

MOST_FUTURES = 10
MOST_OF_CHANCE = 100
MOST_PAIRS = 2


def is_future(value, index):
    """Whether the value is what can stand at an index of futures."""
    if not (isinstance(value, tuple) and len(value) == 3):
        return False
    parent, chance, inflow = value
    if not (is_ratio(chance) and is_between(inflow, 0, MOST_WATER)):
        return False
    if index == 0:
        return parent is None and chance == (1, 1)
    return is_between(parent, 0, index - 1) and chance[0] > 0 and chance[1] <= MOST_OF_CHANCE


def children_of(futures):
    """For each future the list of its children."""
    children = [[] for _ in futures]
    for index, (parent, _, _) in enumerate(futures):
        if parent is not None:
            children[parent].append(index)
    return children


def check_futures(futures):
    """Raise BadFutures unless the value is futures."""
    if not (isinstance(futures, tuple) and 1 <= len(futures) <= MOST_FUTURES):
        raise BadFutures(None)
    for index, future in enumerate(futures):
        if not is_future(future, index):
            raise BadFutures(index)
    for parent, children in enumerate(children_of(futures)):
        if children != [] and sum_of_ratios([futures[child][1] for child in children]) != (1, 1):
            raise BadFutures(parent)


def is_holder(value):
    """Whether the value is a holder: a dam without its inflows."""
    return isinstance(value, tuple) and is_dam(value + ((0,),))


def check_tree(futures, holder, worths):
    """Raise the error of the first argument that is wrong, and NoPlan behind all."""
    check_futures(futures)
    if not is_holder(holder):
        raise BadHolder("not a holder")
    check_worths(worths, len(futures), MOST_PAIRS)
    if not has_releases(futures, holder):
        raise NoPlan("the end cannot be held in each future")


def has_releases(futures, holder):
    """Whether the end is held in each future without children if nothing but what is above the capacity leaves."""
    capacity, start, end = holder
    held = []
    for parent, _, inflow in futures:
        held.append(min(capacity, (start if parent is None else held[parent]) + inflow))
    return all([most >= end for most, children in zip(held, children_of(futures)) if children == []])


def chances_of_ways(futures):
    """The chance of each future, the product of all chances on its way."""
    chances = []
    for parent, chance, _ in futures:
        chances.append(chance if parent is None else times(chances[parent], chance))
    return chances


def weighed_worths(chances, worths):
    """The worths times the chances of their futures, in parts of the common bottom of all chances."""
    common = common_bottom(chances)
    weights = [top_over(chance, common) for chance in chances]
    return [[(amount, price * weight) for amount, price in pairs] for pairs, weight in zip(worths, weights)]


def sum_of_curves(curves, capacity):
    """The curve of what some curves are worth together, each with the same water, up to the capacity."""
    least = max([curve[0] for curve in curves])
    bends = [least, capacity]
    for lowest, _, steps in curves:
        place = lowest
        for _, units in steps:
            bends.append(max(least, place))
            place += units
    places = sorted(set(bends))
    steps = [
        (sum([price_of_unit(curve, first) for curve in curves]), behind - first)
        for first, behind in zip(places, places[1:])
    ]
    return (least, sum([worth_on_curve(curve, least) for curve in curves]), steps)


def tree_curves(futures, holder, weighed):
    """For each future the curve of the water there is in it, and of what is held behind it."""
    capacity, _, end = holder
    in_month = [None] * len(futures)
    behind = [None] * len(futures)
    children = children_of(futures)
    for index in range(len(futures) - 1, -1, -1):
        curves = [curve_before(in_month[child], futures[child][2], capacity) for child in children[index]]
        behind[index] = sum_of_curves(curves, capacity) if curves else (end, 0, [(0, capacity - end)])
        in_month[index] = curve_in_month(behind[index], weighed[index], capacity + futures[index][2])
    return in_month, behind


def found_mean(futures, holder, worths):
    """The greatest mean of arguments that are known to be right."""
    chances = chances_of_ways(futures)
    in_month, _ = tree_curves(futures, holder, weighed_worths(chances, worths))
    return ratio(worth_on_curve(in_month[0], holder[1] + futures[0][2]), common_bottom(chances))


def best_waters(futures, holder, weighed, behind):
    """The water there is in each future, and what is best held behind it."""
    waters = []
    held = []
    for (parent, _, inflow), pairs, curve in zip(futures, weighed, behind):
        waters.append((holder[1] if parent is None else held[parent]) + inflow)
        held.append(best_hold(curve, pairs, waters[-1]))
    return waters, held


def lowest_prices(curves, waters):
    """The lowest price that each of some waters can have on its curve."""
    return [price_of_unit(curve, water) for curve, water in zip(curves, waters)]


def prices_of_children(curves, waters, total):
    """Prices for children with these curves and waters, their sum as near to a total as it can be."""
    lowest = lowest_prices(curves, waters)
    left = total - sum(lowest)
    prices = []
    for curve, water, least in zip(curves, waters, lowest):
        prices.append(nearest_price(curve, water, least + left))
        left -= prices[-1] - least
    return prices


def best_prices(futures, holder, weighed):
    """Tree prices whose bound is the greatest mean, both in parts of the common bottom of all chances."""
    in_month, behind = tree_curves(futures, holder, weighed)
    waters, _ = best_waters(futures, holder, weighed, behind)
    prices = [nearest_price(in_month[0], waters[0], 0)] + [0] * (len(futures) - 1)
    for parent, children in enumerate(children_of(futures)):
        curves = [in_month[index] for index in children]
        shared = prices_of_children(curves, [waters[index] for index in children], prices[parent])
        for child, price in zip(children, shared):
            prices[child] = price
    return prices


def tree_worth(futures, holder, worths):
    """The greatest mean of what the releases are worth."""
    check_tree(futures, holder, worths)
    return found_mean(futures, holder, worths)


def tree_plan(futures, holder, worths):
    """Releases with the greatest mean."""
    check_tree(futures, holder, worths)
    weighed = weighed_worths(chances_of_ways(futures), worths)
    waters, held = best_waters(futures, holder, weighed, tree_curves(futures, holder, weighed)[1])
    return tuple([(water - kept, 1) for water, kept in zip(waters, held)])


def tree_prices(futures, holder, worths):
    """Tree prices whose bound is the greatest mean."""
    check_tree(futures, holder, worths)
    chances = chances_of_ways(futures)
    common = common_bottom(chances)
    return tuple([ratio(price, common) for price in best_prices(futures, holder, weighed_worths(chances, worths))])


def are_releases(futures, holder, value):
    """Whether the value is releases, one for each future, that the holder can make."""
    if not is_row_of_ratios(value, len(futures)):
        return False
    capacity, start, end = holder
    held = []
    for (parent, _, inflow), release, children in zip(futures, value, children_of(futures)):
        before = (start, 1) if parent is None else held[parent]
        held.append(minus(plus(before, (inflow, 1)), release))
        if is_less(held[-1], (0 if children else end, 1)) or is_less((capacity, 1), held[-1]):
            return False
    return True


def mean_of(futures, worths, releases):
    """The mean of what releases are worth."""
    return sum_of_ratios([
        times(chance, release_worth(pairs, release))
        for chance, pairs, release in zip(chances_of_ways(futures), worths, releases)
    ])


def shows_tree(futures, holder, worths, value):
    """Whether the value is releases with the greatest mean."""
    mean = tree_worth(futures, holder, worths)
    return are_releases(futures, holder, value) and mean_of(futures, worths, value) == mean


def bound_of_future(holder, inflow, children_prices, price):
    """What the water and the room of one future add to the bound; no children have no prices."""
    capacity, _, end = holder
    bound = times((inflow, 1), price)
    if children_prices == []:
        return minus(bound, times((end, 1), price))
    return plus(bound, times((capacity, 1), excess(sum_of_ratios(children_prices), price)))


def bound_of_tree(futures, holder, worths, prices):
    """The bound of tree prices, which no mean is greater than."""
    parts = [times((holder[1], 1), prices[0])]
    children = children_of(futures)
    chances = chances_of_ways(futures)
    for index, price in enumerate(prices):
        below = [prices[child] for child in children[index]]
        parts.append(bound_of_future(holder, futures[index][2], below, price))
        for amount, paid in worths[index]:
            parts.append(times((amount, 1), excess(times(chances[index], (paid, 1)), price)))
    return sum_of_ratios(parts)


def shows_tree_prices(futures, holder, worths, value):
    """Whether the value is tree prices whose bound is the greatest mean."""
    mean = tree_worth(futures, holder, worths)
    return is_row_of_ratios(value, len(futures)) and bound_of_tree(futures, holder, worths, value) == mean


def way_to(futures, index):
    """The futures on the way from the first one to one of them."""
    way = []
    while index is not None:
        way.append(index)
        index = futures[index][0]
    return way[::-1]


def worth_of_way(futures, holder, worths, index):
    """What the way to a future is worth at most if it is known ahead."""
    way = way_to(futures, index)
    dam = holder + (tuple([futures[place][2] for place in way]),)
    return greatest_worth(dam, [worths[place] for place in way])


def knowing_worth(futures, holder, worths):
    """By how much the mean would be greater if the way through the futures were known ahead."""
    check_tree(futures, holder, worths)
    known = [
        times(chance, (worth_of_way(futures, holder, worths, index), 1))
        for index, (chance, children) in enumerate(zip(chances_of_ways(futures), children_of(futures)))
        if children == []
    ]
    return minus(sum_of_ratios(known), found_mean(futures, holder, worths))
