"""Stores: small dams of which only the chances of the inflows are known, and the best mean worth of a month.

A choice is a pair (held, release): what is held when the inflow has come and what is released then. Its column tells
what its share adds to each of as many sums as numbers can be held: first 1, as all shares sum to 1; then, for each
number held but 0, the chance that so much is held in its month less the chance a month later, which sum to 0. (That of
0 follows from the others.) A basis is an ascending list of as many choices whose shares these sums alone determine.
"""

from damworks.errors import BadPieces, BadStore
from damworks.ponds import check_chances
from damworks.ratios import (
    divided, is_between, is_less, is_ratio, least_ratio, minus, plus, solutions, sum_of_ratios, times
)
from damworks.worths import MOST_PAIRS, is_pairs, release_worth

MOST_CAPACITY = 6


def check_store(capacity, chances, pieces):
    """Raise the error of the first argument that is wrong."""
    if not is_between(capacity, 1, MOST_CAPACITY):
        raise BadStore("not the capacity of a store")
    check_chances(chances)
    if not is_pairs(pieces, MOST_PAIRS):
        raise BadPieces("not what the releases of a month are worth")


def chances_later(capacity, chances, choice):
    """The chances of all numbers held a month after a choice."""
    held, release = choice
    later = [(0, 1)] * (capacity + 1)
    for inflow, chance in enumerate(chances):
        place = min(capacity, held - release + inflow)
        later[place] = plus(later[place], chance)
    return later


def columns_of(capacity, chances):
    """The columns of all choices, by the choices, which ascend."""
    columns = {}
    for held in range(capacity + 1):
        for release in range(held + 1):
            later = chances_later(capacity, chances, (held, release))
            less = [minus((1 if place == held else 0, 1), chance) for place, chance in enumerate(later)]
            columns[(held, release)] = [(1, 1)] + less[1:]
    return columns


def product_of_rows(one, other):
    """The sum of the products of what stands at the same places of two rows."""
    return sum_of_ratios([times(part, factor) for part, factor in zip(one, other)])


def worth_of_choice(pieces, choice):
    """What the release of a choice is worth."""
    return release_worth(pieces, (choice[1], 1))


def values_of_basis(columns, pieces, basis):
    """The mean and the values of all numbers held but 0 with which no choice of a basis is better or worse."""
    return solutions([columns[choice] + [worth_of_choice(pieces, choice)] for choice in basis])


def parts_of_basis(columns, basis, sums):
    """How much of each choice of a basis comes to the sums."""
    rows = [[columns[choice][place] for choice in basis] for place in range(len(sums))]
    return solutions([row + [total] for row, total in zip(rows, sums)])


def shares_of_basis(columns, basis):
    """The shares of the choices of a basis."""
    return parts_of_basis(columns, basis, [(1, 1)] + [(0, 1)] * (len(basis) - 1))


def better_choice(columns, pieces, values):
    """The first choice that is better than the values, None if there is none."""
    for choice, column in columns.items():
        if is_less(product_of_rows(column, values), worth_of_choice(pieces, choice)):
            return choice
    return None


def exchanged(columns, basis, choice):
    """The basis with a choice that takes the place of the one whose share is used up first."""
    shares = shares_of_basis(columns, basis)
    parts = parts_of_basis(columns, basis, columns[choice])
    limits = [(divided(share, part), other) for share, part, other in zip(shares, parts, basis) if part[0] > 0]
    least = least_ratio([limit for limit, _ in limits])
    leaving = [other for limit, other in limits if limit == least][0]
    return sorted([other for other in basis if other != leaving] + [choice])


def best_basis(capacity, chances, pieces):
    """All columns, a basis with the greatest mean, and its values."""
    columns = columns_of(capacity, chances)
    # To release all is a basis: what is held a month later is the inflow alone.
    basis = [(held, held) for held in range(capacity + 1)]
    values = values_of_basis(columns, pieces, basis)
    choice = better_choice(columns, pieces, values)
    # Always to take the first choice, in and out, never comes back to a basis (Bland's rule).
    while choice is not None:
        basis = exchanged(columns, basis, choice)
        values = values_of_basis(columns, pieces, basis)
        choice = better_choice(columns, pieces, values)
    return columns, basis, values


def best_mean(capacity, chances, pieces):
    """The greatest mean worth of a month in the long run."""
    check_store(capacity, chances, pieces)
    return best_basis(capacity, chances, pieces)[2][0]


def policy_shares(capacity, chances, pieces):
    """Shares of choices with the greatest mean worth."""
    check_store(capacity, chances, pieces)
    columns, basis, _ = best_basis(capacity, chances, pieces)
    shares = shares_of_basis(columns, basis)
    return tuple([choice + (share,) for choice, share in zip(basis, shares) if share != (0, 1)])


def policy_values(capacity, chances, pieces):
    """A value of each number held that shows that no mean is greater."""
    check_store(capacity, chances, pieces)
    return ((0, 1),) + best_basis(capacity, chances, pieces)[2][1:]


def is_share(capacity, value):
    """Whether the value is a triple of a choice and a positive ratio."""
    if not (isinstance(value, tuple) and len(value) == 3):
        return False
    held, release, share = value
    return is_between(held, 0, capacity) and is_between(release, 0, held) and is_ratio(share) and share[0] > 0


def is_shares(capacity, chances, value):
    """Whether the value is shares."""
    if not (isinstance(value, tuple) and all([is_share(capacity, one) for one in value])):
        return False
    if not all([before[:2] < behind[:2] for before, behind in zip(value, value[1:])]):
        return False
    columns = columns_of(capacity, chances)
    sums = [(0, 1)] * (capacity + 1)
    for held, release, share in value:
        sums = [plus(total, times(share, part)) for total, part in zip(sums, columns[(held, release)])]
    return sums == [(1, 1)] + [(0, 1)] * capacity


def shows_shares(capacity, chances, pieces, value):
    """Whether the value is shares with the greatest mean worth."""
    mean = best_mean(capacity, chances, pieces)
    if not is_shares(capacity, chances, value):
        return False
    return sum_of_ratios([times(share, release_worth(pieces, (release, 1))) for _, release, share in value]) == mean


def shows_policy_values(capacity, chances, pieces, value):
    """Whether the value is values that show that no mean is greater than the best one."""
    mean = best_mean(capacity, chances, pieces)
    if not (isinstance(value, tuple) and len(value) == capacity + 1 and all([is_ratio(one) for one in value])):
        return False
    # The columns take the value of nothing held as 0: only what the others are more than it counts.
    more = [minus(one, value[0]) for one in value[1:]]
    return better_choice(columns_of(capacity, chances), pieces, [mean] + more) is None
