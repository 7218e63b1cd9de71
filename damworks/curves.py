"""What may and what must be held in each month, dry spells, and what dams of all sizes can give."""

from damworks.dams import MOST_WATER, check_capacity, check_dam, check_demands, check_inflows
from damworks.errors import BadLevel
from damworks.ratios import is_between
from damworks.yields import firm_yield

MOST_CURVE = 60


def flood_curve(capacity, outlet, inflows):
    """What may be held at most before each month and behind the last one, None where not even 0 may be held."""
    check_capacity(capacity)
    check_capacity(outlet)
    check_inflows(inflows)
    most = capacity
    curve = [most]
    for inflow in reversed(inflows):
        if most is not None:
            most = min(capacity, most + outlet - inflow)
            most = None if most < 0 else most
        curve.append(most)
    return tuple(curve[::-1])


def fill_curve(dam, demands):
    """What must be held at least before each month and behind the last one, None where it is above the capacity."""
    check_dam(dam)
    check_demands(demands, len(dam[3]))
    capacity, _, least, inflows = dam
    curve = [least]
    for inflow, demand in reversed(list(zip(inflows, demands))):
        if least is not None:
            least = max(0, least + demand - inflow)
            least = None if least > capacity else least
        curve.append(least)
    return tuple(curve[::-1])


def yield_curve(inflows, most):
    """The firm yields of full dams without an end, of the capacities from 0 to the most."""
    check_inflows(inflows)
    check_capacity(most, MOST_CURVE)
    return tuple([firm_yield((capacity, capacity, 0, inflows)) for capacity in range(most + 1)])


def spells(inflows, level):
    """The longest rows of months whose inflows are all smaller than a level: triples (first, last, lack)."""
    check_inflows(inflows)
    if not is_between(level, 0, MOST_WATER):
        raise BadLevel("not a level")
    found = []
    for month, inflow in enumerate(inflows):
        if inflow < level:
            lack = level - inflow
            if found != [] and found[-1][1] == month - 1:
                first, _, before = found.pop()
                found.append((first, month, before + lack))
            else:
                found.append((month, month, lack))
    return tuple(found)
