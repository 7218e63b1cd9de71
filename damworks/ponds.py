"""Ponds: small dams of which only the chances of the inflows are known, and what becomes of them in the long run."""

from damworks.errors import BadChances, BadLevel, BadMonths, BadPond, BadRelease, BadRound, BadShare, Unsettled
from damworks.ratios import (
    equation_of, is_between, is_less, is_ratio, is_row_of_ratios, plus, solutions, sum_of_ratios, times
)

MOST_CAPACITY = 8
LEAST_INFLOWS = 2
MOST_INFLOWS = 6
MOST_OF_CHANCE = 100
MOST_MONTHS = 24
MOST_ROUND = 4


def is_pond(value):
    """Whether the value is a pond."""
    if not (isinstance(value, tuple) and len(value) == 2):
        return False
    return is_between(value[0], 1, MOST_CAPACITY) and is_between(value[1], 1, value[0])


def is_chances(value):
    """Whether the value is chances of inflows."""
    if not (isinstance(value, tuple) and LEAST_INFLOWS <= len(value) <= MOST_INFLOWS):
        return False
    if not is_row_of_ratios(value, len(value)) or any([chance[1] > MOST_OF_CHANCE for chance in value]):
        return False
    return sum_of_ratios(value) == (1, 1)


def check_chances(chances):
    """Raise BadChances unless the value is chances of inflows."""
    if not is_chances(chances):
        raise BadChances("not chances of inflows")


def check_pond(pond):
    """Raise BadPond unless the value is a pond."""
    if not is_pond(pond):
        raise BadPond("not a pond")


def check_pond_and_chances(pond, chances):
    """Raise the error of the first argument that is wrong."""
    check_pond(pond)
    check_chances(chances)


def count_of_levels(pond):
    """How many levels a pond has."""
    return pond[0] - pond[1] + 1


def check_level(pond, level):
    """Raise BadLevel unless the value is a level of the pond."""
    if not is_between(level, 0, count_of_levels(pond) - 1):
        raise BadLevel("not a level of the pond")


def check_months(months):
    """Raise BadMonths unless the value is a number of months."""
    if not is_between(months, 0, MOST_MONTHS):
        raise BadMonths("not a number of months")


def check_settles(release, chances):
    """Raise Unsettled if there is no chance of an inflow smaller than the release."""
    if sum_of_ratios(chances[:release]) == (0, 1):
        raise Unsettled("no month can fail")


def months_from(pond, chances, level):
    """What a month can be from a level on: tuples (chance, given, spilled, level behind it)."""
    capacity, release = pond
    months = []
    for inflow, chance in enumerate(chances):
        there = min(capacity, level + inflow)
        given = min(release, there)
        months.append((chance, given, level + inflow - there, there - given))
    return months


def month_later(pond, chances, shares):
    """The chances of all levels a month later."""
    later = [(0, 1)] * len(shares)
    for level, share in enumerate(shares):
        for chance, _, _, behind in months_from(pond, chances, level):
            later[behind] = plus(later[behind], times(share, chance))
    return later


def sure_of(pond, level):
    """The chances of all levels of a pond that is at one of them for sure."""
    return [(1, 1) if place == level else (0, 1) for place in range(count_of_levels(pond))]


def months_later(pond, chances, level, months):
    """The chances of all levels so many months behind a level."""
    shares = sure_of(pond, level)
    for _ in range(months):
        shares = month_later(pond, chances, shares)
    return tuple(shares)


def turn_later(pond, some, level):
    """The chances of all levels a whole turn of months behind a level."""
    shares = sure_of(pond, level)
    for chances in some:
        shares = month_later(pond, chances, shares)
    return shares


def settled_shares(pond, some):
    """The chances of all levels that a whole turn of months, each with its chances, leaves as they are."""
    count = count_of_levels(pond)
    turns = [turn_later(pond, some, level) for level in range(count)]
    rows = [
        equation_of(count, place, [(level, turns[level][place]) for level in range(count)], (0, 1))
        for place in range(1, count)
    ]
    # That of level 0 follows from the others; that all chances sum to 1 takes its place.
    return solutions([[(1, 1)] * (count + 1)] + rows)


def settled_months(pond, chances):
    """What a month can be in the settled state: tuples (chance, given, spilled)."""
    return [
        (times(share, chance), given, spilled)
        for level, share in enumerate(settled_shares(pond, (chances,)))
        for chance, given, spilled, _ in months_from(pond, chances, level)
    ]


def found_failing(pond, chances):
    """The chance that a month fails in the settled state."""
    return sum_of_ratios([chance for chance, given, _ in settled_months(pond, chances) if given < pond[1]])


def does_not_fail(pond, month):
    """Whether a month gives the whole release."""
    return month[1] == pond[1]


def only_gives(pond, month):
    """Whether a month gives the whole release and spills nothing."""
    return month[1] == pond[1] and month[2] == 0


def count_of_month(_):
    """What a month adds to a number of months, whatever it can be."""
    return (1, 1)


def chance_of_spill(months):
    """The chance that something is spilled in a month, by all that it can be."""
    return sum_of_ratios([month[0] for month in months if month[2] > 0])


def sums_of_levels(pond, chances, goes_on, adds):
    """For each level the mean of what a month from it on adds, and all later ones as long as each one goes on."""
    count = count_of_levels(pond)
    rows = []
    for level in range(count):
        months = months_from(pond, chances, level)
        going = [(month[3], month[0]) for month in months if goes_on(pond, month)]
        rows.append(equation_of(count, level, going, adds(months)))
    return solutions(rows)


def pond_steps(pond, chances, level, months):
    """The chances of all levels so many months behind a level."""
    check_pond_and_chances(pond, chances)
    check_level(pond, level)
    check_months(months)
    return months_later(pond, chances, level, months)


def settled(pond, chances):
    """The chances of all levels that a month leaves as they are."""
    check_pond_and_chances(pond, chances)
    check_settles(pond[1], chances)
    return settled_shares(pond, (chances,))


def failing_share(pond, chances):
    """The chance that a month fails in the settled state."""
    check_pond_and_chances(pond, chances)
    check_settles(pond[1], chances)
    return found_failing(pond, chances)


def mean_given(pond, chances):
    """The mean of what is given in a month in the settled state."""
    check_pond_and_chances(pond, chances)
    check_settles(pond[1], chances)
    return sum_of_ratios([times(chance, (given, 1)) for chance, given, _ in settled_months(pond, chances)])


def mean_spilled(pond, chances):
    """The mean of what is spilled in a month in the settled state."""
    check_pond_and_chances(pond, chances)
    check_settles(pond[1], chances)
    return sum_of_ratios([times(chance, (spilled, 1)) for chance, _, spilled in settled_months(pond, chances)])


def mean_wait(pond, chances, level):
    """The mean number of months from a level on up to and with the first one that fails."""
    check_pond_and_chances(pond, chances)
    check_level(pond, level)
    check_settles(pond[1], chances)
    return sums_of_levels(pond, chances, does_not_fail, count_of_month)[level]


def spill_first(pond, chances, level):
    """The chance that some water is spilled, from a level on, before the first month that fails."""
    check_pond_and_chances(pond, chances)
    check_level(pond, level)
    check_settles(pond[1], chances)
    return sums_of_levels(pond, chances, only_gives, chance_of_spill)[level]


def pair_chance(pond, chances, first, second, months):
    """The chance of one level in the settled state and of another one so many months later."""
    check_pond_and_chances(pond, chances)
    check_level(pond, first)
    check_level(pond, second)
    check_months(months)
    check_settles(pond[1], chances)
    return times(settled_shares(pond, (chances,))[first], months_later(pond, chances, first, months)[second])


def round_settled(pond, some):
    """The chances of all levels before the first of some months that one whole turn of them leaves as they are."""
    check_pond(pond)
    if not (isinstance(some, tuple) and 1 <= len(some) <= MOST_ROUND and all([is_chances(one) for one in some])):
        raise BadRound("not chances for a turn of months")
    for chances in some:
        check_settles(pond[1], chances)
    return settled_shares(pond, some)


def least_capacity(release, chances, share):
    """The least capacity with which the failing share is no more than a share, None if there is none."""
    if not is_between(release, 1, MOST_CAPACITY):
        raise BadRelease("not a release")
    check_chances(chances)
    if not is_ratio(share):
        raise BadShare("not a share")
    check_settles(release, chances)
    for capacity in range(release, MOST_CAPACITY + 1):
        if not is_less(share, found_failing((capacity, release), chances)):
            return capacity
    return None
