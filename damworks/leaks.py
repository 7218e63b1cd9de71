"""Leaking dams: what they hold, and what they can give in every month."""

from damworks.dams import check_dam
from damworks.errors import BadLoss, BadSize
from damworks.ratios import divided, is_less, is_ratio, least_ratio, minus, plus, times
from damworks.yields import is_window, windows

MOST_OF_LOSS = 100
MOST_TOP = 1000000
MOST_BOTTOM = 10000


def is_loss(value):
    """Whether the value is a loss."""
    return is_ratio(value) and 0 <= value[0] < value[1] <= MOST_OF_LOSS


def check_leaking(dam, loss):
    """Raise the error of the first argument that is wrong."""
    check_dam(dam)
    if not is_loss(loss):
        raise BadLoss("not a loss")


def kept_share(loss):
    """The share of what is held that is not lost."""
    return minus((1, 1), loss)


def leak_run(dam, loss, size):
    """What is held behind each month if so much is given in every month, None if it cannot be given."""
    check_leaking(dam, loss)
    if not (is_ratio(size) and 0 <= size[0] <= MOST_TOP and size[1] <= MOST_BOTTOM):
        raise BadSize("not a size")
    capacity, start, end, inflows = dam
    held = (start, 1)
    behind = []
    for inflow in inflows:
        left = minus(plus(held, (inflow, 1)), size)
        if left[0] < 0:
            return None
        held = times(least_ratio([left, (capacity, 1)]), kept_share(loss))
        behind.append(held)
    return None if is_less(held, (end, 1)) else tuple(behind)


def leaking_yield(dam, loss, window):
    """What a window can give at most in each of its months, nothing spilled in them, be it below nothing."""
    capacity, start, end, inflows = dam
    first, last = window
    share = kept_share(loss)
    # Both are counted before the loss of a month; so what is held at first counts as before a loss, too.
    water = divided((start, 1), share) if first == 0 else (capacity, 1)
    months = (0, 1)
    for inflow in inflows[first:last + 1]:
        water = plus(times(water, share), (inflow, 1))
        months = plus(times(months, share), (1, 1))
    if last == len(inflows) - 1:
        water = minus(water, divided((end, 1), share))
    return divided(water, months)


def found_yield(dam, loss):
    """The leak yield of a dam and a loss that are known to be right, None if there is none."""
    capacity, _, end, inflows = dam
    if is_less(times((capacity, 1), kept_share(loss)), (end, 1)):
        return None
    least = least_ratio([leaking_yield(dam, loss, window) for window in windows(len(inflows))])
    return None if least[0] < 0 else least


def leak_yield(dam, loss):
    """The greatest ratio that can be given in every month, None if there is none."""
    check_leaking(dam, loss)
    return found_yield(dam, loss)


def leak_paper(dam, loss):
    """A window that can give no more than the leak yield, None if there is no yield."""
    check_leaking(dam, loss)
    least = found_yield(dam, loss)
    if least is None:
        return None
    return [window for window in windows(len(dam[3])) if leaking_yield(dam, loss, window) == least][0]


def shows_leak(dam, loss, value):
    """Whether the value is a window that can give no more than the leak yield, or rightly None."""
    check_leaking(dam, loss)
    least = found_yield(dam, loss)
    if least is None:
        return value is None
    return is_window(value, len(dam[3])) and leaking_yield(dam, loss, value) == least
