"""Papers held against a net: plans, prices, oblongs, sets and rings.

In the functions that are not told elsewhere, `told` is what `unrolled` tells of the net.
"""

from dialweir.errors import BadRing, BadSet, NoPlan
from dialweir.fracs import frac
from dialweir.lower import DOOR, HALL, unrolled
from dialweir.moves import add, four_at, take

NOUGHT = (0, 0)
IN = "in"
OUT = "out"


def plan_fault(net, loads, s):
    """None where the plan's rows fit at s, else the first fault."""
    return _plan_fault(unrolled(net), loads, s)


def cost(net, loads, s, t):
    """What the plan's rows cost at s and t."""
    told = unrolled(net)
    _check_plan(told, loads, s)
    return _cost(told, loads, s, t)


def prices_fault(net, loads, prices, s, t):
    """None where the prices suit the plan's rows at s and t, else the first fault."""
    told = unrolled(net)
    _check_plan(told, loads, s)
    return _prices_fault(told, loads, prices, s, t)


def oblong_fault(net, oblong):
    """None where the oblong holds at its corners, else the first fault."""
    told = unrolled(net)
    for s in (oblong.s_span.low, oblong.s_span.high):
        for t in (oblong.t_span.low, oblong.t_span.high):
            fault = _corner_fault(told, oblong, s, t)
            if fault is not None:
                return fault
    return None


def _corner_fault(told, oblong, s, t):
    """The first fault of an oblong at one setting: of the plan, of the prices, of the worth."""
    fault = _plan_fault(told, oblong.loads, s)
    if fault is None:
        fault = _prices_fault(told, oblong.loads, oblong.prices, s, t)
    if fault is None and _cost(told, oblong.loads, s, t) != four_at(oblong.four, s, t):
        fault = ("worth",)
    return fault


def _check_plan(told, loads, s):
    """Refuse rows that do not fit."""
    fault = _plan_fault(told, loads, s)
    if fault is not None:
        raise NoPlan(fault)


def _worth(move, at):
    """What the move is worth at the setting times the under of the setting: a whole number."""
    return move[0] * at[1] + move[1] * at[0]


def _plan_fault(told, loads, s):
    _, _, _, arcs = told
    if [row[:2] for row in loads] != [arc[:2] for arc in arcs]:
        return ("rows",)
    amounts = [_worth(row[2:], s) for row in loads]
    fault = _load_fault(arcs, amounts, s)
    if fault is None:
        fault = _spot_fault(told, amounts, s)
    return fault


def _load_fault(arcs, amounts, s):
    """The first load that lies below its floor or beyond floor and rooms."""
    for (name, hour, _, _, floor, rungs), amount in zip(arcs, amounts):
        if amount < _worth(floor, s):
            return ("floor", name, hour)
        top = _tops(floor, rungs, s)[-1]
        if top is not None and amount > top:
            return ("top", name, hour)
    return None


def _tops(floor, rungs, s):
    """Up to which load each rung reaches, None without end."""
    tops = []
    top = _worth(floor, s)
    for room, _ in rungs:
        if room is None:
            tops.append(None)
        else:
            top += _worth(room, s)
            tops.append(top)
    return tops


def _comings(count, arcs, amounts):
    """How much comes to each spot."""
    comings = [0] * count
    for (_, _, _, head, _, _), amount in zip(arcs, amounts):
        comings[head] += amount
    return comings


def _spot_fault(told, amounts, s):
    """The first spot whose want is not met, or whose passage bears more than its room."""
    spots, wants, rooms, arcs = told
    comings = _comings(len(spots), arcs, amounts)
    stays = list(comings)
    for (_, _, tail, _, _, _), amount in zip(arcs, amounts):
        stays[tail] -= amount
    for at, (place, hour) in enumerate(spots):
        if stays[at] != _worth(wants[at], s):
            return ("sum", place, hour)
        if rooms[at] is not None and comings[at] > _worth(rooms[at], s):
            return ("through", place, hour)
    return None


def _cost(told, loads, s, t):
    _, _, _, arcs = told
    total = 0
    for (_, _, _, _, floor, rungs), row in zip(arcs, loads):
        amount = _worth(row[2:], s)
        paid = _worth(floor, s)
        total += paid * _worth(rungs[0][1], t)
        for (_, price), top in zip(rungs, _tops(floor, rungs, s)):
            filled = amount if top is None else min(amount, top)
            total += (filled - paid) * _worth(price, t)
            paid = filled
    return frac(total, s[1] * t[1])


def _prices_fault(told, loads, prices, s, t):
    spots, _, rooms, arcs = told
    if [row[:3] for row in prices] != [(place, hour, side) for place, hour in spots for side in (DOOR, HALL)]:
        return ("rows",)
    levels = [_worth(row[3:], t) for row in prices]
    doors, halls = levels[0::2], levels[1::2]
    amounts = [_worth(row[2:], s) for row in loads]
    for arc, amount in zip(arcs, amounts):
        fault = _rung_fault(arc, amount, doors[arc[3]] - halls[arc[2]], s, t)
        if fault is not None:
            return fault
    comings = _comings(len(spots), arcs, amounts)
    for at, (place, hour) in enumerate(spots):
        if comings[at] > 0 and halls[at] < doors[at]:
            return ("door", place, hour)
        if (rooms[at] is None or comings[at] < _worth(rooms[at], s)) and halls[at] > doors[at]:
            return ("hall", place, hour)
    return None


def _rung_fault(arc, amount, gain, s, t):
    """The first rung of a part that does not suit its gain."""
    name, hour, _, _, floor, rungs = arc
    ahead = _worth(floor, s)
    for (_, price), top in zip(rungs, _tops(floor, rungs, s)):
        if amount > ahead and gain < _worth(price, t):
            return ("dear", name, hour)
        if (top is None or amount < top) and gain > _worth(price, t):
            return ("cheap", name, hour)
        ahead = top
    return None


def set_lack(net, paper):
    """The lack of a set paper, a move, or None where the paper bars nothing."""
    side, places = paper
    spots, wants, rooms, arcs = unrolled(net)
    doors, halls = _held_sides(spots, side, places)
    lack = NOUGHT
    for held, want in zip(halls, wants):
        if held:
            lack = add(lack, want) if side == IN else take(lack, want)
    ways = [(halls[tail], doors[head], floor, _rooms(rungs)) for _, _, tail, head, floor, rungs in arcs]
    ways.extend([(door, hall, NOUGHT, [passage]) for door, hall, passage in zip(doors, halls, rooms)])
    for start, end, floor, ends in ways:
        if start == end:
            continue
        # What a set `in` needs has to enter it, and what a set `out` has left has to leave it.
        if end != (side == IN):
            lack = add(lack, floor)
        elif None in ends:
            return None
        else:
            for move in [floor] + ends:
                lack = take(lack, move)
    return lack


def _rooms(rungs):
    return [room for room, _ in rungs]


def _held_sides(spots, side, places):
    """(doors, halls): for each spot whether its door, its hall is in the set; BadSet where the paper is none."""
    numbers = {}
    for place, hour in spots:
        numbers[place, hour, DOOR] = len(numbers)
        numbers[place, hour, HALL] = len(numbers)
    if side not in (IN, OUT):
        raise BadSet()
    held = [False] * len(numbers)
    last = -1
    for place in places:
        if numbers.get(place, -1) <= last:
            raise BadSet()
        last = numbers[place]
        held[last] = True
    return (held[0::2], held[1::2])


def ring_price(net, ring):
    """The price of a ring paper, a move."""
    _, _, rooms, arcs = unrolled(net)
    roads = net.road_names()
    runs = {(name, hour): (tail, head, rungs[-1]) for name, hour, tail, head, _, rungs in arcs if name in roads}
    if len(ring) == 0 or any([part not in runs for part in ring]):
        raise BadRing()
    price = NOUGHT
    # Ahead of the first part stands the last one.
    _, spot, _ = runs[ring[-1]]
    for part in ring:
        tail, head, (room, last_price) = runs[part]
        if tail != spot or room is not None or rooms[head] is not None:
            raise BadRing()
        price = add(price, last_price)
        spot = head
    return price
