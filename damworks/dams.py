"""Dams, plans and demands: what they are, and how a dam runs with them."""

from damworks.errors import BadCapacity, BadDam, BadDemands, BadInflows, BadPlan, NoPlan
from damworks.ratios import is_between, is_less, is_row_between, is_row_of_ratios, minus, plus

MOST_WATER = 1000
MOST_MONTHS = 12


def is_inflows(value):
    """Whether the value is a tuple of inflows of a dam."""
    return is_row_between(value, 0, MOST_WATER) and 1 <= len(value) <= MOST_MONTHS


def is_dam(value):
    """Whether the value is a dam, with a plan or without one."""
    if not (isinstance(value, tuple) and len(value) == 4):
        return False
    capacity, start, end, inflows = value
    if not is_between(capacity, 0, MOST_WATER):
        return False
    return is_between(start, 0, capacity) and is_between(end, 0, capacity) and is_inflows(inflows)


def check_dam(dam):
    """Raise BadDam unless the value is a dam."""
    if not is_dam(dam):
        raise BadDam("not a dam")


def check_inflows(inflows):
    """Raise BadInflows unless the value is a tuple of inflows."""
    if not is_inflows(inflows):
        raise BadInflows("not a tuple of inflows")


def check_capacity(capacity, most=MOST_WATER):
    """Raise BadCapacity unless the value is a capacity, at most so great."""
    if not is_between(capacity, 0, most):
        raise BadCapacity("not a capacity")


def check_demands(demands, count):
    """Raise BadDemands unless the value is a tuple of demands for so many months."""
    if not (is_row_between(demands, 0, MOST_WATER) and len(demands) == count):
        raise BadDemands("not a tuple of demands, one for each month")


def check_has_plan(dam):
    """Raise NoPlan if the dam has no plan: if even what spills alone leaves too little for the end."""
    capacity, held, end, inflows = dam
    for inflow in inflows:
        held = min(capacity, held + inflow)
    if held < end:
        raise NoPlan("the end cannot be held")


def levels_from(start, coming, releases):
    """What would be held behind each month, be it below nothing or above the capacity; all are ratios."""
    held = start
    behind = []
    for water, release in zip(coming, releases):
        held = minus(plus(held, water), release)
        behind.append(held)
    return tuple(behind)


def levels_behind(dam, releases):
    """What a dam would hold behind each month with its own inflows alone."""
    return levels_from((dam[1], 1), [(inflow, 1) for inflow in dam[3]], releases)


def can_hold(dam, behind):
    """Whether a dam can hold so much behind each month, and holds its end in the end."""
    capacity, _, end, _ = dam
    if any(is_less(held, (0, 1)) or is_less((capacity, 1), held) for held in behind):
        return False
    return not is_less(behind[-1], (end, 1))


def is_plan(dam, value):
    """Whether the value is a plan for the dam."""
    return is_row_of_ratios(value, len(dam[3])) and can_hold(dam, levels_behind(dam, value))


def check_plan(dam, plan):
    """Raise BadPlan unless the value is a plan for the dam."""
    if not is_plan(dam, plan):
        raise BadPlan("not a plan for the dam")


def levels(dam, plan):
    """What is held behind each month."""
    check_dam(dam)
    check_plan(dam, plan)
    return levels_behind(dam, plan)


def run_months(dam, demands):
    """The triples of `run`, of a dam and demands that are known to be right."""
    capacity, held, _, inflows = dam
    months = []
    for inflow, demand in zip(inflows, demands):
        there = held + inflow
        given = min(demand, there)
        held = min(capacity, there - given)
        months.append((given, there - given - held, held))
    return tuple(months)


def run(dam, demands):
    """What is given, spilled and then held in each month, if the demands are given as far as water is there."""
    check_dam(dam)
    check_demands(demands, len(dam[3]))
    return run_months(dam, demands)
