"""Rivers as texts."""

from damworks.damtext import behind_sign, behind_spaces, check_text, is_sign, read_next_dam, read_number, write_dam
from damworks.errors import InvalidText
from damworks.rivers import MOST_DAMS, MOST_DELAY, MOST_MONTHS, check_river


def write_link(link):
    """The text of a dam of a river, with its target and its delay."""
    dam, target, delay = link
    word = "-" if target is None else str(target)
    return f"{write_dam(dam)} > {word} {delay}"


def write_river(river):
    """The text of a river."""
    check_river(river)
    return " / ".join([write_link(link) for link in river])


def read_link(text, place, least, most):
    """The next dam with its target and its delay, the place of its target, and the place where the text goes on."""
    dam, place = read_next_dam(text, place, least, most)
    first = behind_spaces(text, behind_sign(text, place, ">"))
    if is_sign(text, first, "-"):
        target = None
        delay, place = read_number(text, first + 1, 0)
    else:
        target, place = read_number(text, first, MOST_DAMS - 1)
        delay, place = read_number(text, place, MOST_DELAY)
    return (dam, target, delay), first, behind_spaces(text, place)


def read_links(text):
    """All dams of a text with their targets and delays, be the targets right or not, and the places of the targets."""
    link, first, place = read_link(text, 0, 1, MOST_MONTHS)
    links = [link]
    firsts = [first]
    months = len(link[0][3])
    while place < len(text):
        if len(links) == MOST_DAMS:
            raise InvalidText(place)
        link, first, place = read_link(text, behind_sign(text, place, "/"), months, months)
        links.append(link)
        firsts.append(first)
    return links, firsts


def read_river(text):
    """The river that a text names."""
    check_text(text)
    links, firsts = read_links(text)
    for index, (_, target, _) in enumerate(links):
        if target is not None and not index < target < len(links):
            raise InvalidText(firsts[index])
    return tuple(links)
