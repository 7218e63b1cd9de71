"""Whole numbers, ratios, which are pairs (top, bottom) in lowest terms, the bottom positive, and their equations."""

from math import gcd, lcm


def is_whole(value):
    """Whether the value is an integer; True and False are not."""
    return isinstance(value, int) and not isinstance(value, bool)


def is_between(value, least, most):
    """Whether the value is an integer from least to most."""
    return is_whole(value) and least <= value <= most


def is_row_between(value, least, most):
    """Whether the value is a tuple of integers from least to most."""
    return isinstance(value, tuple) and all(is_between(number, least, most) for number in value)


def is_ratio(value):
    """Whether the value is a ratio."""
    if not (isinstance(value, tuple) and len(value) == 2):
        return False
    top, bottom = value
    return is_whole(top) and is_whole(bottom) and bottom > 0 and gcd(top, bottom) == 1


def is_row_of_ratios(value, count):
    """Whether the value is a tuple of so many ratios from 0 on."""
    if not (isinstance(value, tuple) and len(value) == count):
        return False
    return all(is_ratio(one) and one[0] >= 0 for one in value)


def ratio(top, bottom):
    """The ratio of an integer and a positive one."""
    shared = gcd(top, bottom)
    return (top // shared, bottom // shared)


def plus(one, other):
    """The sum of two ratios."""
    return ratio(one[0] * other[1] + other[0] * one[1], one[1] * other[1])


def minus(one, other):
    """The first ratio less the second one."""
    return ratio(one[0] * other[1] - other[0] * one[1], one[1] * other[1])


def times(one, other):
    """The product of two ratios."""
    return ratio(one[0] * other[0], one[1] * other[1])


def divided(one, other):
    """The first ratio divided by the second one, which is not 0."""
    top, bottom = one[0] * other[1], one[1] * other[0]
    return ratio(top, bottom) if bottom > 0 else ratio(-top, -bottom)


def excess(one, other):
    """What the first ratio is more than the second one, 0 if it is not more."""
    return minus(one, other) if is_less(other, one) else (0, 1)


def sum_of_ratios(ratios):
    """The sum of some ratios."""
    total = (0, 1)
    for one in ratios:
        total = plus(total, one)
    return total


def common_bottom(ratios):
    """The least bottom that all of some ratios can be given."""
    common = 1
    for _, bottom in ratios:
        common = lcm(common, bottom)
    return common


def top_over(one, common):
    """The top of a ratio over a bottom that it can be given."""
    return one[0] * (common // one[1])


def is_less(one, other):
    """Whether the first ratio is less than the second one."""
    return one[0] * other[1] < other[0] * one[1]


def least_ratio(ratios):
    """The least of some ratios."""
    least = ratios[0]
    for one in ratios:
        if is_less(one, least):
            least = one
    return least


def greatest_ratio(ratios):
    """The greatest of some ratios."""
    greatest = ratios[0]
    for one in ratios:
        if is_less(greatest, one):
            greatest = one
    return greatest


def equation_of(count, place, others, total):
    """The equation of so many unknowns: the one at a place, less others, pairs (place, factor), is the total."""
    row = [(0, 1)] * count + [total]
    row[place] = (1, 1)
    for other, factor in others:
        row[other] = minus(row[other], factor)
    return row


def without_unknown(row, place, solved):
    """An equation less so much of another one, whose factor at a place is 1, that its own factor there is 0."""
    if row[place] == (0, 1):
        return row
    return [minus(one, times(row[place], other)) for one, other in zip(row, solved)]


def solutions(equations):
    """The unknowns of as many equations that have exactly one solution.

    An equation is a row with the factor of each unknown and, last, what they come to.
    """
    rows = list(equations)
    done = []
    for place in range(len(equations)):
        chosen = [row for row in rows if row[place] != (0, 1)][0]
        rows.remove(chosen)
        solved = [divided(one, chosen[place]) for one in chosen]
        rows = [without_unknown(row, place, solved) for row in rows]
        done = [without_unknown(row, place, solved) for row in done] + [solved]
    return tuple([row[-1] for row in done])
