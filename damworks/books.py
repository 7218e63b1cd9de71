"""Books that keep the months of a dam."""

from damworks.dams import MOST_WATER, check_capacity
from damworks.errors import BadFlow, BadStart, NothingToUndo, TooLittle
from damworks.ratios import is_between


def sum_at(months, place):
    """The sum of what stands at a place of all months."""
    return sum([month[place] for month in months])


class Book:
    """The months of a dam: what came, what was released and what was spilled."""

    def __init__(self, capacity, start):
        check_capacity(capacity)
        if not is_between(start, 0, capacity):
            raise BadStart("not a start")
        self._capacity = capacity
        self._kept = []
        self._levels = [start]

    def month(self, inflow, release):
        """Keep a month; return what was spilled."""
        if not (is_between(inflow, 0, MOST_WATER) and is_between(release, 0, MOST_WATER)):
            raise BadFlow("not an inflow or a release")
        left = self._levels[-1] + inflow - release
        if left < 0:
            raise TooLittle("the release is more than there is")
        spilled = max(0, left - self._capacity)
        self._kept.append((inflow, release, spilled))
        self._levels.append(left - spilled)
        return spilled

    def held(self):
        """What is held."""
        return self._levels[-1]

    def months(self):
        """All months kept, triples (inflow, release, spilled)."""
        return tuple(self._kept)

    def totals(self):
        """The sums of all inflows, all releases and all that was spilled."""
        return (sum_at(self._kept, 0), sum_at(self._kept, 1), sum_at(self._kept, 2))

    def lowest(self):
        """The least that was held at first or behind a month."""
        return min(self._levels)

    def highest(self):
        """The greatest that was held at first or behind a month."""
        return max(self._levels)

    def undo(self):
        """Take back the last month that has not been taken back."""
        if self._kept == []:
            raise NothingToUndo("no month is kept")
        self._kept.pop()
        self._levels.pop()
