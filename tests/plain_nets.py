"""Plain nets for the tests, made from numbers of a known seed, and what is found of them set by set."""

import itertools
import random

from made_nets import move_above, move_near

S_BOX = (-3, 4)
T_BOX = (-2, 3)


def plain_net(seed, *, nodes=4, arcs=7, endless=0.25, top=8, spoiled=False):
    """(needs, arcs, loads): needs that the loads meet, or (spoiled) needs that are then changed."""
    chance = random.Random(seed)
    count = chance.randint(1, nodes)
    needs = [(0, 0)] * count
    told = []
    loads = []
    for _ in range(chance.randint(0, arcs)):
        tail, head = chance.randrange(count), chance.randrange(count)
        room = move_above(chance, S_BOX, top)
        if chance.random() < 0.2:
            # Nought at one end of the box.
            room = chance.choice([(3, 1), (4, -1), (0, 0), (6, 2)])
        by = chance.choice((0, 1, 1, 2))
        load = (room[0] // by, room[1] // by) if by else (0, 0)
        if any(not 0 <= load[0] + load[1] * s <= room[0] + room[1] * s for s in S_BOX):
            load = room
        price = move_near(chance, T_BOX, top)
        if chance.random() < endless:
            room = None
            price = move_above(chance, T_BOX, top)
        told.append((tail, head, room, price))
        loads.append(load)
        needs[head] = (needs[head][0] + load[0], needs[head][1] + load[1])
        needs[tail] = (needs[tail][0] - load[0], needs[tail][1] - load[1])
    if spoiled:
        for _ in range(chance.choice((1, 1, 2))):
            one, other = chance.randrange(count), chance.randrange(count)
            by = (chance.randint(0, 5), chance.randint(-2, 2))
            needs[one] = (needs[one][0] + by[0], needs[one][1] + by[1])
            if chance.random() < 0.7:
                needs[other] = (needs[other][0] - by[0], needs[other][1] - by[1])
    return (needs, told, loads)


def weight(move, at):
    """What the move is worth at the setting, times the setting's under."""
    return move[0] * at[1] + move[1] * at[0]


def set_excess(needs, arcs, side, numbers, s):
    """By how much a set needs more than can enter it (or has more than can leave it); None where rooms have no end."""
    held = set(numbers)
    excess = sum(weight(needs[number], s) for number in numbers) * (1 if side == "in" else -1)
    for tail, head, room, _ in arcs:
        start, end = (tail, head) if side == "in" else (head, tail)
        if end in held and start not in held:
            if room is None:
                return None
            excess -= weight(room, s)
    return excess


def some_set_bars(needs, arcs, s):
    """Whether any set of nodes has an excess above nought, all of them looked at one by one."""
    for size in range(len(needs) + 1):
        for numbers in itertools.combinations(range(len(needs)), size):
            for side in ("in", "out"):
                if (set_excess(needs, arcs, side, numbers, s) or 0) > 0:
                    return True
    return False


def some_ring_falls(count, arcs, t):
    """Whether any ring of arcs without end is below nought, all rings that meet no node twice looked at."""
    endless = [(tail, head, weight(price, t)) for tail, head, room, price in arcs if room is None]

    def falls(first, node, met, price):
        for tail, head, more in endless:
            if tail == node and head == first and price + more < 0:
                return True
            if tail == node and head > first and head not in met:
                if falls(first, head, met | {head}, price + more):
                    return True
        return False

    return any(falls(first, first, {first}, 0) for first in range(count))
