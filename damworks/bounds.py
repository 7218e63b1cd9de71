"""Plans whose releases keep between floors and ceilings."""

from damworks.dams import check_dam, check_demands
from damworks.errors import BadDemands
from damworks.yields import in_window, is_window, spare_water, windows


def check_bounds(dam, floors, ceilings):
    """Raise the error of the first argument that is wrong."""
    check_dam(dam)
    check_demands(floors, len(dam[3]))
    check_demands(ceilings, len(dam[3]))
    if any([ceiling < floor for floor, ceiling in zip(floors, ceilings)]):
        raise BadDemands("a ceiling is smaller than its floor")


def is_dry(dam, floors, window):
    """Whether the floors of a window are greater than what it can have at most, the end held."""
    return sum(in_window(floors, window)) > spare_water(dam, window)


def is_wet(dam, ceilings, window):
    """Whether more than the capacity is left in a window even if its ceilings are released and it begins empty."""
    capacity, start, _, inflows = dam
    held = start if window[0] == 0 else 0
    return held + sum(in_window(inflows, window)) - sum(in_window(ceilings, window)) > capacity


def papers(dam, floors, ceilings):
    """All papers that there is no plan between the bounds; there are none just where there is a plan."""
    months = windows(len(dam[3]))
    dry = [("dry", first, last) for first, last in months if is_dry(dam, floors, (first, last))]
    return dry + [("wet", first, last) for first, last in months if is_wet(dam, ceilings, (first, last))]


def least_levels(dam, ceilings):
    """The least that can be held before each month, and behind the last one with the end held."""
    _, held, end, inflows = dam
    levels = [held]
    for inflow, ceiling in zip(inflows, ceilings):
        held = max(0, held + inflow - ceiling)
        levels.append(held)
    levels[-1] = max(held, end)
    return levels


def plan_between(dam, floors, ceilings):
    """A plan of integers between bounds that are known to have one.

    It is made from the last month on: no more is held than must be, by the ceilings before or by the floors behind.
    """
    levels = least_levels(dam, ceilings)
    held = levels[-1]
    releases = []
    for month in range(len(floors) - 1, -1, -1):
        inflow = dam[3][month]
        before = max(levels[month], held - inflow + floors[month])
        releases.append((before + inflow - held, 1))
        held = before
    return tuple(releases[::-1])


def bounded_plan(dam, floors, ceilings):
    """A plan of integers with each release between both bounds, None if there is none."""
    check_bounds(dam, floors, ceilings)
    return plan_between(dam, floors, ceilings) if papers(dam, floors, ceilings) == [] else None


def bounded_paper(dam, floors, ceilings):
    """A row of months that is too dry for the floors or too wet for the ceilings, None if there is a plan."""
    check_bounds(dam, floors, ceilings)
    found = papers(dam, floors, ceilings)
    return None if found == [] else found[0]


def shows_bounded(dam, floors, ceilings, value):
    """Whether the value is a row of months that is too dry or too wet, or rightly None."""
    check_bounds(dam, floors, ceilings)
    found = papers(dam, floors, ceilings)
    if found == []:
        return value is None
    # Only integers may be looked for among the papers: True would be found in the place of 1.
    return isinstance(value, tuple) and is_window(value[1:], len(floors)) and value in found
