"""Gates: releases that are nothing or from a least to a most, and cost something to begin with."""

from damworks.dams import check_has_plan
from damworks.errors import BadGate, TooMany
from damworks.ratios import is_between
from damworks.worths import check_dam_and_worths, release_worth

MOST_THROUGH = 50
MOST_COST = 1000
MOST_CAPACITY = 40
MOST_MONTHS = 6


def is_gate(value):
    """Whether the value is a gate."""
    if not (isinstance(value, tuple) and len(value) == 3):
        return False
    least, most, cost = value
    return is_between(most, 1, MOST_THROUGH) and is_between(least, 1, most) and is_between(cost, 0, MOST_COST)


def best_way(gate, sold, behind, water, is_open):
    """The best way on from a month with so much water, the gate open or not the month before; None if there is none.

    A way is a pair (worth less costs, what goes through in each month). Behind are the best ways from the next month
    on: for each level held before it the pair of them, the gate closed and open in this month.
    """
    least, most, cost = gate
    best = None
    for through in [0] + list(range(least, min(most, water) + 1)):
        way = behind[min(len(behind) - 1, water - through)][min(1, through)]
        if way is not None:
            worth = way[0] + sold[through] - (cost if through > 0 and not is_open else 0)
            # Of ways of the same worth the first one is kept: less goes through in the first unlike month.
            if best is None or worth > best[0]:
                best = (worth, (through,) + way[1])
    return best


def best_ways(dam, worths, gate):
    """The best way from the first month on, of a dam that is known to have a plan."""
    capacity, start, end, inflows = dam
    ways = [((0, ()), (0, ())) if held >= end else (None, None) for held in range(capacity + 1)]
    for inflow, pairs in reversed(list(zip(inflows, worths))):
        sold = [release_worth(pairs, (through, 1))[0] for through in range(gate[1] + 1)]
        ways = [
            tuple([best_way(gate, sold, ways, held + inflow, is_open) for is_open in (False, True)])
            for held in range(capacity + 1)
        ]
    return ways[start][0]


def gate_plan(dam, worths, gate):
    """The greatest sum of worths less costs, and the smallest tuple of what goes through in each month with it."""
    check_dam_and_worths(dam, worths)
    if not is_gate(gate):
        raise BadGate("not a gate")
    check_has_plan(dam)
    if dam[0] > MOST_CAPACITY:
        raise TooMany(MOST_CAPACITY)
    if len(dam[3]) > MOST_MONTHS:
        raise TooMany(MOST_MONTHS)
    return best_ways(dam, worths, gate)
