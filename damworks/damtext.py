"""Dams as texts."""

from damworks.dams import MOST_MONTHS, MOST_WATER, check_dam
from damworks.errors import InvalidText, NotText

DIGITS = "0123456789"


def write_dam(dam):
    """The text of a dam."""
    check_dam(dam)
    capacity, start, end, inflows = dam
    row = " ".join([str(inflow) for inflow in inflows])
    return f"{capacity} {start} {end} : {row}"


def behind_spaces(text, place):
    """The first place from this one on where no space stands."""
    while place < len(text) and text[place] == " ":
        place += 1
    return place


def behind_digits(text, place):
    """The first place from this one on where no digit stands."""
    while place < len(text) and text[place] in DIGITS:
        place += 1
    return place


def read_number(text, place, most):
    """The next number, at most so great, and the place behind it."""
    first = behind_spaces(text, place)
    behind = behind_digits(text, first)
    digits = text[first:behind]
    # A row that is longer than the greatest number is never turned into one: Python refuses very long rows.
    if digits == "" or (digits[0] == "0" and digits != "0") or len(digits) > len(str(most)):
        raise InvalidText(first)
    number = int(digits)
    if number > most:
        raise InvalidText(first)
    return number, behind


def behind_colon(text, place):
    """The place behind the colon that must come next."""
    place = behind_spaces(text, place)
    if text[place:place + 1] != ":":
        raise InvalidText(place)
    return place + 1


def read_inflows(text, place):
    """The tuple of the inflows that are all of the text from this place on."""
    inflows = []
    while inflows == [] or place < len(text):
        if len(inflows) == MOST_MONTHS:
            raise InvalidText(place)
        inflow, place = read_number(text, place, MOST_WATER)
        inflows.append(inflow)
        place = behind_spaces(text, place)
    return tuple(inflows)


def read_dam(text):
    """The dam that a text names."""
    if not isinstance(text, str):
        raise NotText("not a string")
    capacity, place = read_number(text, 0, MOST_WATER)
    start, place = read_number(text, place, capacity)
    end, place = read_number(text, place, capacity)
    return (capacity, start, end, read_inflows(text, behind_colon(text, place)))
