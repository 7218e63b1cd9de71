"""Rivers: dams above other dams, what their water is worth at most, and prices that show it.

A place is a number: each dam in each month has one, in their order, and the sink, where all water goes in the end, has
the greatest. An arc is a list [tail, head, room, worth]: how much more can go from the place that is its tail to that
which is its head, and what each unit of that is worth. Behind each arc stands its way back, whose room is what goes
through the arc. Without any water there is no way round in circles, and there is always a way to the sink with room
for more.
"""

from damworks.dams import can_hold, is_dam, levels_from
from damworks.errors import BadRiver, BadRiverWorths, NoPlan
from damworks.prices import bound_of_prices, is_prices
from damworks.ratios import is_between, is_row_of_ratios, plus, sum_of_ratios
from damworks.worths import is_worths, releases_worth

MOST_DAMS = 3
MOST_MONTHS = 5
MOST_DELAY = 2
MOST_PAIRS = 2


def is_link(value, index, count):
    """Whether the value is what stands at an index of a river of so many dams, the others not looked at."""
    if not (isinstance(value, tuple) and len(value) == 3):
        return False
    dam, target, delay = value
    if not (is_dam(dam) and len(dam[3]) <= MOST_MONTHS and is_between(delay, 0, MOST_DELAY)):
        return False
    return delay == 0 if target is None else is_between(target, index + 1, count - 1)


def months_of(river):
    """How many months a river has."""
    return len(river[0][0][3])


def check_river(river):
    """Raise BadRiver unless the value is a river."""
    if not (isinstance(river, tuple) and 1 <= len(river) <= MOST_DAMS):
        raise BadRiver(None)
    for index, link in enumerate(river):
        if not (is_link(link, index, len(river)) and len(link[0][3]) == months_of(river)):
            raise BadRiver(index)


def check_river_and_worths(river, worths):
    """Raise the error of the first argument that is wrong."""
    check_river(river)
    if not (isinstance(worths, tuple) and len(worths) == len(river)):
        raise BadRiverWorths(None)
    for index, some in enumerate(worths):
        if not is_worths(some, months_of(river), MOST_PAIRS):
            raise BadRiverWorths(index)


def add_arc(arcs, tail, head, room, worth):
    """Add an arc and its way back; return the number of the arc."""
    arcs.append([tail, head, room, worth])
    arcs.append([head, tail, 0, -worth])
    return len(arcs) - 2


def sent_through(arcs, numbers):
    """What goes through some arcs together."""
    return sum([arcs[number + 1][2] for number in numbers])


def worth_of_arcs(arcs):
    """What all that goes through all arcs is worth."""
    return sum([arcs[number][3] * arcs[number + 1][2] for number in range(0, len(arcs), 2)])


def best_gains(arcs, sink):
    """What one unit more in each place adds at most, and the arcs by which it leaves its place for that."""
    gains = [None] * sink + [0]
    leaving = [None] * sink
    is_settled = False
    while not is_settled:
        is_settled = True
        # The last places come first: most water goes on to later ones, so that few rounds are enough.
        for number in range(len(arcs) - 1, -1, -1):
            tail, head, room, worth = arcs[number]
            if room > 0 and gains[head] is not None:
                gain = worth + gains[head]
                if gains[tail] is None or gains[tail] < gain:
                    gains[tail] = gain
                    leaving[tail] = number
                    is_settled = False
    return gains, leaving


def best_way(arcs, place, sink):
    """The numbers of the arcs on which one unit more goes best from a place to the sink."""
    _, leaving = best_gains(arcs, sink)
    way = []
    while place != sink:
        way.append(leaving[place])
        place = arcs[leaving[place]][1]
    return way


def room_of_way(arcs, way):
    """How much more can go on all arcs of a way."""
    return min([arcs[number][2] for number in way])


def send(arcs, place, amount, sink):
    """Send so much from a place to the sink in the best way, what has been sent before turned where that is better."""
    while amount > 0:
        way = best_way(arcs, place, sink)
        sent = min(amount, room_of_way(arcs, way))
        for number in way:
            # An arc's number is even and that of its way back is one more.
            back = number + 1 - 2 * (number % 2)
            arcs[number][2] -= sent
            arcs[back][2] += sent
        amount -= sent


def next_month(river, index, month):
    """The pair (dam, month) to which what a dam releases in a month comes, None if it is lost."""
    _, target, delay = river[index]
    if target is None or month + delay >= months_of(river):
        return None
    return (target, month + delay)


def place_in(river, at):
    """The number of the place of a pair (dam, month), or of the sink for None."""
    if at is None:
        return len(river) * months_of(river)
    return at[0] * months_of(river) + at[1]


def all_water(river):
    """All water there is in a river."""
    return sum([dam[1] + sum(dam[3]) for dam, _, _ in river])


def worth_of_ends(worths):
    """What a unit of water held in the end is taken to be worth: more than all other water together."""
    return 1 + sum([amount * price for some in worths for pairs in some for amount, price in pairs])


def add_releases(arcs, river, worths, index, month):
    """Add the arcs by which the water of a dam leaves in a month; return their numbers."""
    place = place_in(river, (index, month))
    head = place_in(river, next_month(river, index, month))
    # There is room for one unit more than all water, so that there is always a price of one unit more.
    pairs = worths[index][month] + ((all_water(river) + 1, 0),)
    return [add_arc(arcs, place, head, amount, price) for amount, price in pairs]


def add_holds(arcs, river, worths, index, month):
    """Add the arcs by which the water of a dam is held behind a month."""
    capacity, _, end, _ = river[index][0]
    place = place_in(river, (index, month))
    if month + 1 < months_of(river):
        add_arc(arcs, place, place + 1, capacity, 0)
    else:
        # What is more than the end may as well be let go.
        add_arc(arcs, place, place_in(river, None), end, worth_of_ends(worths))


def river_arcs(river, worths):
    """All arcs of a river, and for each dam and month the numbers of those by which its water leaves."""
    arcs = []
    releasing = []
    for index in range(len(river)):
        rows = []
        for month in range(months_of(river)):
            add_holds(arcs, river, worths, index, month)
            rows.append(add_releases(arcs, river, worths, index, month))
        releasing.append(rows)
    return arcs, releasing


def send_all_water(arcs, river):
    """Send all that is held at first and all inflows in the best way."""
    sink = place_in(river, None)
    for index, (dam, _, _) in enumerate(river):
        send(arcs, place_in(river, (index, 0)), dam[1], sink)
        for month, inflow in enumerate(dam[3]):
            send(arcs, place_in(river, (index, month)), inflow, sink)


def best_river(river, worths):
    """The greatest worth of a river, a best river plan, and river prices; NoPlan is raised if there are none."""
    arcs, releasing = river_arcs(river, worths)
    send_all_water(arcs, river)
    held, worth = divmod(worth_of_arcs(arcs), worth_of_ends(worths))
    if held < sum([dam[2] for dam, _, _ in river]):
        raise NoPlan("not all ends can be held")
    plan = [tuple([(sent_through(arcs, numbers), 1) for numbers in rows]) for rows in releasing]
    gains, _ = best_gains(arcs, place_in(river, None))
    months = months_of(river)
    prices = [tuple(gains[first:first + months]) for first in range(0, len(river) * months, months)]
    return worth, tuple(plan), tuple(prices)


def river_worth(river, worths):
    """The greatest sum of what the releases of all dams are worth."""
    check_river_and_worths(river, worths)
    return best_river(river, worths)[0]


def river_plan(river, worths):
    """A river plan of the greatest worth."""
    check_river_and_worths(river, worths)
    return best_river(river, worths)[1]


def river_prices(river, worths):
    """River prices whose bound is the greatest worth."""
    check_river_and_worths(river, worths)
    return best_river(river, worths)[2]


def come_waters(river, plan):
    """What comes to each dam in each month, its inflows and what is released above it."""
    come = [[(inflow, 1) for inflow in dam[3]] for dam, _, _ in river]
    for index, releases in enumerate(plan):
        for month, release in enumerate(releases):
            at = next_month(river, index, month)
            if at is not None:
                come[at[0]][at[1]] = plus(come[at[0]][at[1]], release)
    return come


def is_river_plan(river, value):
    """Whether the value is a river plan."""
    if not (isinstance(value, tuple) and len(value) == len(river)):
        return False
    if not all(is_row_of_ratios(releases, months_of(river)) for releases in value):
        return False
    return all([
        can_hold(dam, levels_from((dam[1], 1), come, releases))
        for (dam, _, _), come, releases in zip(river, come_waters(river, value), value)
    ])


def shows_river(river, worths, value):
    """Whether the value is a river plan of the greatest worth."""
    worth = river_worth(river, worths)
    if not is_river_plan(river, value):
        return False
    return sum_of_ratios([releases_worth(some, releases) for some, releases in zip(worths, value)]) == (worth, 1)


def next_price(river, prices, index, month):
    """The price where what a dam releases in a month comes to, 0 where it is lost."""
    at = next_month(river, index, month)
    return 0 if at is None else prices[at[0]][at[1]]


def is_river_prices(river, value):
    """Whether the value is river prices."""
    if not (isinstance(value, tuple) and len(value) == len(river)):
        return False
    if not all(is_prices(prices, months_of(river)) for prices in value):
        return False
    return all([
        price >= next_price(river, value, index, month)
        for index, prices in enumerate(value)
        for month, price in enumerate(prices)
    ])


def dearer_worths(river, some, prices, index):
    """The worths of a dam with the next price of each month added to all prices of its pairs."""
    return [
        [(amount, price + next_price(river, prices, index, month)) for amount, price in pairs]
        for month, pairs in enumerate(some)
    ]


def bound_of_river(river, worths, prices):
    """The bound of some river prices, which no river plan is worth more than."""
    return sum([
        bound_of_prices(dam, dearer_worths(river, worths[index], prices, index), prices[index])
        for index, (dam, _, _) in enumerate(river)
    ])


def shows_river_prices(river, worths, value):
    """Whether the value is river prices whose bound is the greatest worth."""
    worth = river_worth(river, worths)
    return is_river_prices(river, value) and bound_of_river(river, worths, value) == worth
