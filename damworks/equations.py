"""Equations that have exactly one solution, solved exactly."""

from damworks.ratios import divided, minus, times


def equation_of(count, place, others, total):
    """The equation of so many unknowns: the one at a place, less others, pairs (place, factor), is the total."""
    row = [(0, 1)] * count + [total]
    row[place] = (1, 1)
    for other, factor in others:
        row[other] = minus(row[other], factor)
    return row


def without_unknown(row, place, solved):
    """An equation less so much of another one, whose factor at a place is 1, that its own factor there is 0."""
    if row[place] == (0, 1):
        return row
    return [minus(one, times(row[place], other)) for one, other in zip(row, solved)]


def solutions(equations):
    """The unknowns of as many equations: rows with the factor of each unknown and, last, what they come to."""
    rows = list(equations)
    done = []
    for place in range(len(equations)):
        chosen = [row for row in rows if row[place] != (0, 1)][0]
        rows.remove(chosen)
        solved = [divided(one, chosen[place]) for one in chosen]
        rows = [without_unknown(row, place, solved) for row in rows]
        done = [without_unknown(row, place, solved) for row in done] + [solved]
    return tuple([row[-1] for row in done])
