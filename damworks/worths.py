"""What releases are worth, and the plans that are worth most.

A curve tells what some months can be worth at most, by the water there is for them: it is a triple (least, worth,
steps), the least water with which they have a plan, what they are worth with it, and pairs (price, units), the prices
falling: what each further unit of water adds.
"""

from damworks.dams import check_dam, check_has_plan, check_plan, is_plan
from damworks.errors import BadWorths
from damworks.ratios import is_less, is_row_between, minus, plus, ratio

MOST_PAIRS = 3
MOST_OF_PAIR = 1000


def is_pairs(value, most):
    """Whether the value is what the releases of a month are worth, by at most so many pairs."""
    if not (isinstance(value, tuple) and len(value) <= most):
        return False
    if not all(is_row_between(pair, 1, MOST_OF_PAIR) and len(pair) == 2 for pair in value):
        return False
    return all(before[1] > behind[1] for before, behind in zip(value, value[1:]))


def is_worths(value, months, most):
    """Whether the value is worths for so many months, of at most so many pairs each."""
    if not (isinstance(value, tuple) and len(value) == months):
        return False
    return all(is_pairs(pairs, most) for pairs in value)


def check_worths(worths, months, most=MOST_PAIRS):
    """Raise BadWorths unless the value is worths for so many months, of at most so many pairs each."""
    if not (isinstance(worths, tuple) and len(worths) == months):
        raise BadWorths(None)
    for month, pairs in enumerate(worths):
        if not is_pairs(pairs, most):
            raise BadWorths(month)


def check_dam_and_worths(dam, worths):
    """Raise the error of the first argument that is wrong."""
    check_dam(dam)
    check_worths(worths, len(dam[3]))


def release_worth(pairs, release):
    """What a release of a month is worth."""
    worth = (0, 1)
    left = release
    for amount, price in pairs:
        sold = left if is_less(left, (amount, 1)) else (amount, 1)
        worth = plus(worth, ratio(sold[0] * price, sold[1]))
        left = minus(left, sold)
    return worth


def releases_worth(worths, releases):
    """What the releases of all months are worth."""
    worth = (0, 1)
    for pairs, release in zip(worths, releases):
        worth = plus(worth, release_worth(pairs, release))
    return worth


def plan_worth(dam, worths, plan):
    """What the releases of a plan are worth."""
    check_dam_and_worths(dam, worths)
    check_plan(dam, plan)
    return releases_worth(worths, plan)


def part_of_steps(steps, first, behind):
    """The steps from one number of units to another one."""
    part = []
    place = 0
    for price, units in steps:
        taken = min(place + units, behind) - max(place, first)
        if taken > 0:
            part.append((price, taken))
        place += units
    return part


def worth_on_curve(curve, water):
    """What so much water is worth at most."""
    least, worth, steps = curve
    return worth + sum([price * units for price, units in part_of_steps(steps, 0, water - least)])


def uses_of_water(curve, pairs, water):
    """All uses of a month's water, the best ones first: triples (price, units, whether they are held).

    The curve is that of what is held behind the month. One unit more than there is may be let go for nothing, so that
    there is always a price of one unit more.
    """
    held = [(price, units, True) for price, units in curve[2]]
    sold = [(price, amount, False) for amount, price in pairs]
    return sorted(held + sold + [(0, water + 1, False)], key=lambda use: -use[0])


def curve_in_month(curve, pairs, most):
    """The curve of the water there is in a month when its inflow has come, for at most so much water."""
    least, worth, _ = curve
    return (least, worth, [(price, units) for price, units, _ in uses_of_water(curve, pairs, most)])


def curve_before(curve, inflow, capacity):
    """The curve of what is held before a month, from the one of the water there is in it."""
    least, _, steps = curve
    lowest = max(0, least - inflow)
    begin = lowest + inflow - least
    steps = part_of_steps(steps, begin, begin + capacity - lowest)
    return (lowest, worth_on_curve(curve, lowest + inflow), steps)


def curves_of_levels(capacities, end, inflows, worths):
    """The curves of what is held before each month, and behind the last one, each with a capacity of its own."""
    curves = [(end, 0, [(0, capacities[-1] - end)])]
    for capacity, inflow, pairs in reversed(list(zip(capacities, inflows, worths))):
        in_month = curve_in_month(curves[-1], pairs, capacity + inflow)
        curves.append(curve_before(in_month, inflow, capacity))
    return curves[::-1]


def level_curves(dam, worths):
    """The curves of what a dam holds before each month, and behind the last one."""
    capacity, _, end, inflows = dam
    return curves_of_levels((capacity,) * (len(inflows) + 1), end, inflows, worths)


def greatest_worth(dam, worths):
    """The best worth of a dam that is known to have a plan."""
    return worth_on_curve(level_curves(dam, worths)[0], dam[1])


def best_hold(curve, pairs, water):
    """How much of a month's water is best held: each unit goes to the best use that is left."""
    held = curve[0]
    left = water - held
    for _, units, is_held in uses_of_water(curve, pairs, water):
        taken = min(left, units)
        left -= taken
        if is_held:
            held += taken
    return held


def best_levels(start, inflows, worths, curves):
    """What is held behind each month with a best plan, integers."""
    held = start
    behind = []
    for inflow, pairs, curve in zip(inflows, worths, curves[1:]):
        held = best_hold(curve, pairs, held + inflow)
        behind.append(held)
    return behind


def releases_between(start, inflows, behind):
    """What is released in each month if so much is held behind each one."""
    return [held + inflow - kept for held, inflow, kept in zip([start] + behind, inflows, behind)]


def best_releases(dam, worths):
    """What is released in each month with a best plan, integers."""
    _, start, _, inflows = dam
    behind = best_levels(start, inflows, worths, level_curves(dam, worths))
    return releases_between(start, inflows, behind)


def best_worth(dam, worths):
    """The greatest worth of all plans."""
    check_dam_and_worths(dam, worths)
    check_has_plan(dam)
    return greatest_worth(dam, worths)


def best_plan(dam, worths):
    """A plan of the greatest worth."""
    check_dam_and_worths(dam, worths)
    check_has_plan(dam)
    return tuple([(release, 1) for release in best_releases(dam, worths)])


def shows_best(dam, worths, value):
    """Whether the value is a plan of the greatest worth."""
    check_dam_and_worths(dam, worths)
    check_has_plan(dam)
    return is_plan(dam, value) and releases_worth(worths, value) == (greatest_worth(dam, worths), 1)
