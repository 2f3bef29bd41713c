"""Nets led down to plain ones, step by step, and what is found there led back."""

from dialweir.errors import TooGreat
from dialweir.moves import add, product, take
from dialweir.net import MOST_ARCS

NOUGHT = (0, 0)
NO_COST = (0, 0, 0, 0)
BOTH = "both"
DOOR = "door"
HALL = "hall"
# Passages have no name, so that no part is taken for one.
NO_NAME = ""


def unrolled(net):
    """(spots, wants, rooms, arcs): the net hour by hour, an arc for each part."""
    spots = net.spots()
    wants = []
    rooms = []
    for name in net.place_names():
        room, _, _, told = net.place_told(name)
        wants.extend(told)
        rooms.extend([room] * net.hours)
    numbers = {spot: number for number, spot in enumerate(spots)}
    runs = _runs(net)
    arcs = []
    for name, hour in net.parts():
        start, end, takes, floor, rungs = runs[name]
        arcs.append((name, hour, numbers[start, hour], numbers[end, hour + takes], floor, rungs))
    return (spots, wants, rooms, arcs)


def _runs(net):
    """What road_told tells of each road, and the same of each place's store: a road to the hour behind."""
    runs = {name: net.road_told(name) for name in net.road_names()}
    for name in net.place_names():
        _, room, price, _ = net.place_told(name)
        runs[name] = (name, name, 1, NOUGHT, ((room, price),))
    return runs


def doored(spots, wants, rooms, arcs):
    """(nodes, wants, arcs): spots whose passage has an end parted into door and hall."""
    nodes = []
    node_wants = []
    doors = []
    halls = []
    passages = []
    for (place, hour), want, room in zip(spots, wants, rooms):
        door = len(nodes)
        doors.append(door)
        if room is None:
            nodes.append((place, hour, BOTH))
            node_wants.append(want)
        else:
            nodes.extend([(place, hour, DOOR), (place, hour, HALL)])
            node_wants.extend([NOUGHT, want])
            passages.append((NO_NAME, hour, door, door + 1, NOUGHT, ((room, NOUGHT),)))
        halls.append(len(nodes) - 1)
    led = [(name, hour, halls[tail], doors[head], floor, rungs) for name, hour, tail, head, floor, rungs in arcs]
    return (nodes, node_wants, led + passages)


def laid(arcs):
    """A row for each rung of each arc; the floor stays with the first one."""
    rows = []
    for name, hour, tail, head, floor, rungs in arcs:
        for rung, (room, price) in enumerate(rungs, start=1):
            kept = floor if rung == 1 else NOUGHT
            rows.append((name, hour, rung, tail, head, kept, room, price))
    return rows


def sunk(wants, rows):
    """(needs, plain, fixed): each floor taken as run, and the cost of all floors."""
    needs = list(wants)
    plain = []
    fixed = NO_COST
    for _, _, _, tail, head, floor, room, price in rows:
        needs[head] = take(needs[head], floor)
        needs[tail] = add(needs[tail], floor)
        fixed = fours_added(fixed, product(floor, price))
        plain.append((tail, head, room, price))
    return (needs, plain, fixed)


def fours_added(one, other):
    """The four numbers of two costs together."""
    return tuple([a + b for a, b in zip(one, other)])


def plain_count(net):
    """How many plain arcs the net would be led down to."""
    count = 0
    for name in net.road_names():
        _, _, takes, _, rungs = net.road_told(name)
        count += max(0, net.hours - takes) * len(rungs)
    for name in net.place_names():
        passage, room, _, _ = net.place_told(name)
        if passage is not None:
            count += net.hours
        if room != NOUGHT:
            count += net.hours - 1
    return count


class Lowered:
    """A net led down to a plain one, as it stood; what is found on the plain one is led back."""

    def __init__(self, net):
        count = plain_count(net)
        if count > MOST_ARCS:
            raise TooGreat(count)
        spots, spot_wants, rooms, parts = unrolled(net)
        nodes, wants, arcs = doored(spots, spot_wants, rooms, parts)
        rows = laid(arcs)
        needs, plain, fixed = sunk(wants, rows)
        self.nodes = nodes
        self.needs = needs
        self.arcs = plain
        self.fixed = fixed
        # The fields may be changed by their holder: what leads back stands by itself.
        self._nodes = tuple(nodes)
        self._rows = tuple(rows)

    def up_plan(self, loads):
        """A plan's rows of a load for each plain arc: floors and rungs added up, passages dropped."""
        totals = {}
        for (name, hour, _, _, _, floor, _, _), load in zip(self._rows, loads):
            if name != NO_NAME:
                totals[name, hour] = add(totals.get((name, hour), NOUGHT), add(floor, load))
        return [(name, hour, base, step) for (name, hour), (base, step) in totals.items()]

    def up_prices(self, heights):
        """Prices of doors and halls of a height for each node."""
        prices = []
        for (place, hour, part), (base, step) in zip(self._nodes, heights):
            prices.extend([(place, hour, side, base, step) for side in _sides(part)])
        return prices

    def up_set(self, side, numbers):
        """A set paper of nodes, told by their numbers in any order."""
        places = []
        for number in sorted(set(numbers)):
            place, hour, part = self._nodes[number]
            places.extend([(place, hour, told) for told in _sides(part)])
        return (side, places)

    def up_ring(self, numbers):
        """The parts of plain arcs, told by their numbers in order; passages dropped."""
        ends = [self._rows[number][:2] for number in numbers]
        return [(name, hour) for name, hour in ends if name != NO_NAME]


def _sides(part):
    """The doors and halls that a node is."""
    if part == BOTH:
        return (DOOR, HALL)
    return (part,)
