"""Ages of water: the oldest water leaves first.

Water is counted in pairs (came, amount), the oldest first: the month in which it came and how much of it is there, a
ratio. What is held at first came in the month before the first one.
"""

from damworks.dams import check_dam, check_plan
from damworks.ratios import divided, least_ratio, minus, sum_of_ratios, times


def parted(waters, release):
    """The oldest of some waters that make up a release, and those that are left; no amount is 0."""
    released = []
    kept = []
    left = release
    for came, amount in waters:
        taken = least_ratio([left, amount])
        left = minus(left, taken)
        if taken != (0, 1):
            released.append((came, taken))
        if taken != amount:
            kept.append((came, minus(amount, taken)))
    return released, kept


def waters_of_months(dam, plan):
    """For each month the waters that are released and those that are held behind it."""
    check_dam(dam)
    check_plan(dam, plan)
    _, start, _, inflows = dam
    kept = [(-1, (start, 1))]
    months = []
    for month, (inflow, release) in enumerate(zip(inflows, plan)):
        released, kept = parted(kept + [(month, (inflow, 1))], release)
        months.append((released, kept))
    return months


def mean_age(released, month):
    """The mean age in a month of the waters that are released, 0 without any."""
    if released == []:
        return (0, 1)
    ages_together = sum_of_ratios([times((month - came, 1), amount) for came, amount in released])
    return divided(ages_together, sum_of_ratios([amount for _, amount in released]))


def ages(dam, plan):
    """The mean age of the water that is released in each month."""
    return tuple([mean_age(released, month) for month, (released, _) in enumerate(waters_of_months(dam, plan))])


def oldest(dam, plan):
    """The age of the oldest water that is held behind each month, None where nothing is held."""
    return tuple([
        None if kept == [] else month - kept[0][0] for month, (_, kept) in enumerate(waters_of_months(dam, plan))
    ])
