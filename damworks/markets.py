"""Markets: the water of a dam sold to several users, at prices with which all of them and the owner are content."""

from damworks.dams import check_dam, check_has_plan, is_plan
from damworks.errors import BadUsers
from damworks.prices import bound_of_prices, found_prices, is_prices
from damworks.ratios import is_row_of_ratios, sum_of_ratios
from damworks.worths import MOST_PAIRS, best_releases, is_worths, releases_worth

MOST_USERS = 4


def check_dam_and_users(dam, users):
    """Raise the error of the first argument that is wrong, and NoPlan behind both."""
    check_dam(dam)
    if not (isinstance(users, tuple) and 1 <= len(users) <= MOST_USERS):
        raise BadUsers(None)
    for index, worths in enumerate(users):
        if not is_worths(worths, len(dam[3]), MOST_PAIRS):
            raise BadUsers(index)
    check_has_plan(dam)


def laid_together(users):
    """The pairs of all users of each month."""
    return [[pair for pairs in month for pair in pairs] for month in zip(*users)]


def shared_out(month, release):
    """What each user takes of a month's release, the dearest pairs first, and what nobody takes, as ratios."""
    offers = [(price, user, amount) for user, pairs in enumerate(month) for amount, price in pairs]
    parts = [0] * len(month)
    left = release
    for _, taker, wanted in sorted(offers, reverse=True):
        taken = min(left, wanted)
        parts[taker] += taken
        left -= taken
    return [(part, 1) for part in parts + [left]]


def market(dam, users):
    """Prices of water, what each user takes in each month, and what nobody takes."""
    check_dam_and_users(dam, users)
    worths = laid_together(users)
    months = [shared_out(month, release) for month, release in zip(zip(*users), best_releases(dam, worths))]
    rows = list(zip(*months))
    return (found_prices(dam, worths), tuple(rows[:-1]), rows[-1])


def is_market(dam, users, value):
    """Whether the value is a triple of prices, parts for all users and what nobody takes, together a plan."""
    if not (isinstance(value, tuple) and len(value) == 3):
        return False
    prices, parts, left = value
    months = len(dam[3])
    if not (is_prices(prices, months) and isinstance(parts, tuple) and len(parts) == len(users)):
        return False
    rows = parts + (left,)
    if not all([is_row_of_ratios(row, months) for row in rows]):
        return False
    return is_plan(dam, tuple([sum_of_ratios(month) for month in zip(*rows)]))


def shows_market(dam, users, value):
    """Whether the value is a triple as `market` returns it: the parts are worth the bound of the prices."""
    check_dam_and_users(dam, users)
    if not is_market(dam, users, value):
        return False
    prices, parts, _ = value
    worth = sum_of_ratios([releases_worth(worths, releases) for worths, releases in zip(users, parts)])
    return worth == (bound_of_prices(dam, laid_together(users), prices), 1)
