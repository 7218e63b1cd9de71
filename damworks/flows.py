"""Best ways of water through arcs to a sink, which has the greatest number of all places.

An arc is a list [tail, head, room, worth]: how much more can go from its tail to its head, and what each unit of that
is worth. Behind each arc stands its way back, whose room is what goes through the arc. Without any water there is no
way round in circles, and there is always a way to the sink with room for more.
"""


def add_arc(arcs, tail, head, room, worth):
    """Add an arc and its way back; return the number of the arc."""
    arcs.append([tail, head, room, worth])
    arcs.append([head, tail, 0, -worth])
    return len(arcs) - 2


def sent_through(arcs, numbers):
    """What goes through some arcs together."""
    return sum([arcs[number + 1][2] for number in numbers])


def worth_of_arcs(arcs):
    """What all that goes through all arcs is worth."""
    return sum([arcs[number][3] * arcs[number + 1][2] for number in range(0, len(arcs), 2)])


def best_gains(arcs, sink):
    """What one unit more in each place adds at most, and the arcs by which it leaves its place for that."""
    gains = [None] * sink + [0]
    leaving = [None] * sink
    is_settled = False
    while not is_settled:
        is_settled = True
        # The last places come first: most water goes on to later ones, so that few rounds are enough.
        for number in range(len(arcs) - 1, -1, -1):
            tail, head, room, worth = arcs[number]
            if room > 0 and gains[head] is not None:
                gain = worth + gains[head]
                if gains[tail] is None or gains[tail] < gain:
                    gains[tail] = gain
                    leaving[tail] = number
                    is_settled = False
    return gains, leaving


def best_way(arcs, place, sink):
    """The numbers of the arcs on which one unit more goes best from a place to the sink."""
    _, leaving = best_gains(arcs, sink)
    way = []
    while place != sink:
        way.append(leaving[place])
        place = arcs[leaving[place]][1]
    return way


def room_of_way(arcs, way):
    """How much more can go on all arcs of a way."""
    return min([arcs[number][2] for number in way])


def send(arcs, place, amount, sink):
    """Send so much from a place to the sink in the best way, what has been sent before turned where that is better."""
    while amount > 0:
        way = best_way(arcs, place, sink)
        sent = min(amount, room_of_way(arcs, way))
        for number in way:
            # An arc's number is even and that of its way back is one more.
            back = number + 1 - 2 * (number % 2)
            arcs[number][2] -= sent
            arcs[back][2] += sent
        amount -= sent
