"""Two dams that give together, their ends not looked at.

For a plan, water is sent through places as in a river (see damworks/rivers.py): each dam has one for each month, then
there is one for each month where what both give comes together, and last the sink. All water is counted in parts of
the bottom of the joint yield.
"""

from itertools import combinations

from damworks.dams import check_dam
from damworks.errors import BadPair, TooMany
from damworks.ratios import is_row_between, least_ratio, ratio
from damworks.rivers import add_arc, send, sent_through

MOST_MONTHS = 8


def check_pair(one, other):
    """Raise the error of the first argument that is wrong, and TooMany behind both."""
    check_dam(one)
    check_dam(other)
    if len(one[3]) != len(other[3]):
        raise BadPair("not as many months as the first dam has")
    if len(one[3]) > MOST_MONTHS:
        raise TooMany(MOST_MONTHS)


def most_given(dam, months):
    """What a dam can give in some months at most, all that is held in each of them."""
    capacity, held, _, inflows = dam
    given = 0
    for month, inflow in enumerate(inflows):
        held += inflow
        if month in months:
            given += held
            held = 0
        held = min(capacity, held)
    return given


def mean_of_months(one, other, months):
    """What both dams can give in some months at most, divided by their number."""
    return ratio(most_given(one, months) + most_given(other, months), len(months))


def means_of_months(one, other):
    """All ascending tuples of months, each behind its mean."""
    count = len(one[3])
    return [
        (mean_of_months(one, other, months), months)
        for size in range(1, count + 1)
        for months in combinations(range(count), size)
    ]


def found_yield(one, other):
    """The joint yield of two dams that are known to be right."""
    return least_ratio([mean for mean, _ in means_of_months(one, other)])


def add_dam(arcs, dam, first, count):
    """Add the arcs of a dam whose first place is given; return the numbers of those by which its water leaves."""
    capacity, start, _, inflows = dam
    months = len(inflows)
    sink = 3 * months
    # No room is ever full: there is always a way for what is spilled.
    most = 1 + (start + sum(inflows)) * count
    leaving = []
    for month in range(months):
        place = first + month
        leaving.append((add_arc(arcs, place, 2 * months + month, most, 0), add_arc(arcs, place, sink, most, 0)))
        if month + 1 < months:
            add_arc(arcs, place, place + 1, capacity * count, 0)
    return leaving


def send_dam(arcs, dam, first, count):
    """Send all water of a dam, each unit counted as so many parts, in the best way."""
    _, start, _, inflows = dam
    sink = 3 * len(inflows)
    send(arcs, first, start * count, sink)
    for month, inflow in enumerate(inflows):
        send(arcs, first + month, inflow * count, sink)


def joint_yield(one, other):
    """The greatest ratio that the sum of what both dams give is in every month."""
    check_pair(one, other)
    return found_yield(one, other)


def joint_plan(one, other):
    """A pair of plans whose sum is at least the joint yield in every month."""
    check_pair(one, other)
    needed, count = found_yield(one, other)
    months = len(one[3])
    arcs = []
    for month in range(months):
        add_arc(arcs, 2 * months + month, 3 * months, needed, 1)
    leaving = [add_dam(arcs, one, 0, count), add_dam(arcs, other, months, count)]
    send_dam(arcs, one, 0, count)
    send_dam(arcs, other, months, count)
    return tuple([tuple([ratio(sent_through(arcs, numbers), count) for numbers in rows]) for rows in leaving])


def joint_paper(one, other):
    """Months in which both dams can give no more than the joint yield in each."""
    check_pair(one, other)
    joint = found_yield(one, other)
    return [months for mean, months in means_of_months(one, other) if mean == joint][0]


def shows_joint(one, other, value):
    """Whether the value is an ascending tuple of months in which both dams can give no more than the joint yield."""
    check_pair(one, other)
    if not (is_row_between(value, 0, len(one[3]) - 1) and value != ()):
        return False
    if not all(before < behind for before, behind in zip(value, value[1:])):
        return False
    return mean_of_months(one, other, value) == found_yield(one, other)
