"""The least storage with which demands can be given, and the months that need it."""

from damworks.dams import check_demands, check_inflows
from damworks.errors import BadFlag
from damworks.ratios import is_row_between


def check_rows(inflows, demands, is_round):
    """Raise the error of the first argument that is wrong."""
    check_inflows(inflows)
    check_demands(demands, len(inflows))
    if not isinstance(is_round, bool):
        raise BadFlag("neither True nor False")


def rows_of_months(months, is_round):
    """All pairs (first, count) of a month and a number of months from it on."""
    return [
        (first, count)
        for first in range(months)
        for count in range(1, (months if is_round else months - first) + 1)
    ]


def lack_of_row(inflows, demands, row):
    """By how much the demands of a row of months are greater than their inflows."""
    first, count = row
    # The months stand twice here, for rows that go on with month 0 behind the last one.
    needed = (demands + demands)[first:first + count]
    coming = (inflows + inflows)[first:first + count]
    return sum(needed) - sum(coming)


def found_storage(inflows, demands, is_round):
    """The least storage of rows that are known to be right."""
    if is_round and sum(demands) > sum(inflows):
        return None
    # A row longer than a whole turn needs no more than without that turn, which brings as much as it takes.
    rows = rows_of_months(len(inflows), is_round)
    return max(0, max([lack_of_row(inflows, demands, row) for row in rows]))


def least_storage(inflows, demands, is_round):
    """The least capacity with which a dam, full at first, can give all demands, None if there is none."""
    check_rows(inflows, demands, is_round)
    return found_storage(inflows, demands, is_round)


def storage_paper(inflows, demands, is_round):
    """A row of months that needs the least storage, None if that is None or 0."""
    check_rows(inflows, demands, is_round)
    storage = found_storage(inflows, demands, is_round)
    if storage is None or storage == 0:
        return None
    rows = rows_of_months(len(inflows), is_round)
    return [row for row in rows if lack_of_row(inflows, demands, row) == storage][0]


def shows_storage(inflows, demands, is_round, value):
    """Whether the value is a row of months that needs the least storage, or rightly None."""
    check_rows(inflows, demands, is_round)
    storage = found_storage(inflows, demands, is_round)
    if storage is None or storage == 0:
        return value is None
    # Only integers may be looked for among the rows: True would be found in the place of 1.
    if not (is_row_between(value, 0, len(inflows)) and value in rows_of_months(len(inflows), is_round)):
        return False
    return lack_of_row(inflows, demands, value) == storage
