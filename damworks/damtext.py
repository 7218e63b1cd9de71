"""Dams as texts."""

from damworks.dams import MOST_MONTHS, MOST_WATER, check_dam
from damworks.errors import InvalidText, NotText

DIGITS = "0123456789"


def write_dam(dam):
    """The text of a dam."""
    check_dam(dam)
    capacity, start, end, inflows = dam
    row = " ".join([str(inflow) for inflow in inflows])
    return f"{capacity} {start} {end} : {row}"


def behind_spaces(text, place):
    """The first place from this one on where no space stands."""
    while place < len(text) and text[place] == " ":
        place += 1
    return place


def behind_digits(text, place):
    """The first place from this one on where no digit stands."""
    while place < len(text) and text[place] in DIGITS:
        place += 1
    return place


def read_number(text, place, most):
    """The next number, at most so great, and the place behind it."""
    first = behind_spaces(text, place)
    behind = behind_digits(text, first)
    digits = text[first:behind]
    # A row that is longer than the greatest number is never turned into one: Python refuses very long rows.
    if digits == "" or (digits[0] == "0" and digits != "0") or len(digits) > len(str(most)):
        raise InvalidText(first)
    number = int(digits)
    if number > most:
        raise InvalidText(first)
    return number, behind


def is_sign(text, place, sign):
    """Whether a sign, and not the end of the text, stands at a place."""
    return text[place:place + 1] == sign


def behind_sign(text, place, sign):
    """The place behind the sign that must come next."""
    place = behind_spaces(text, place)
    if not is_sign(text, place, sign):
        raise InvalidText(place)
    return place + 1


def read_inflows(text, place, least, most):
    """The tuple of the next inflows, as many as stand there, and the first place behind them that is no space.

    At least the least number of them must stand there, and no more than the most.
    """
    inflows = []
    while len(inflows) < least or (place < len(text) and text[place] in DIGITS):
        if len(inflows) == most:
            raise InvalidText(place)
        inflow, place = read_number(text, place, MOST_WATER)
        inflows.append(inflow)
        place = behind_spaces(text, place)
    return tuple(inflows), place


def read_next_dam(text, place, least, most):
    """The dam that comes next, with a number of months from the least to the most, and the place behind it."""
    capacity, place = read_number(text, place, MOST_WATER)
    start, place = read_number(text, place, capacity)
    end, place = read_number(text, place, capacity)
    inflows, place = read_inflows(text, behind_sign(text, place, ":"), least, most)
    return (capacity, start, end, inflows), place


def check_text(text):
    """Raise NotText unless the value is a string."""
    if not isinstance(text, str):
        raise NotText("not a string")


def read_dam(text):
    """The dam that a text names."""
    check_text(text)
    dam, place = read_next_dam(text, 0, 1, MOST_MONTHS)
    if place < len(text):
        raise InvalidText(place)
    return dam
