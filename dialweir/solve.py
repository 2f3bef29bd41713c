"""Plain nets at one setting: what bars all loads, what brings prices below any bottom, and the cheapest loads."""

from dialweir.cheapest import cheapest, heights_of, loads_of
from dialweir.filling import Filling
from dialweir.forest import NONE
from dialweir.weighing import weighed_loads, weighed_prices


def bar(needs, arcs, s):
    """None where loads exist at s, else (side, numbers): a set of nodes that bars them."""
    lacks, rooms = weighed_loads(needs, arcs, s, 0)
    numbers = Filling(lacks, [(tail, head) for tail, head, _, _ in arcs], rooms).lacking()
    if len(numbers) > 0:
        return ("in", numbers)
    # All get enough: loads exist unless some nodes keep something that they can't get rid of.
    if sum(lacks) == 0:
        return None
    lefts = [-lack for lack in lacks]
    return ("out", Filling(lefts, [(head, tail) for tail, head, _, _ in arcs], rooms).lacking())


def ring_at(count, arcs, t):
    """None, or the numbers of arcs without end that close to a ring and come to less than nought at t."""
    prices = weighed_prices(arcs, t, 0)
    endless = [(arc, tail, head) for arc, (tail, head, room, _) in enumerate(arcs) if room is None]
    dues = [0] * count
    steps = [NONE] * count
    fallen = NONE
    # Without such a ring nothing falls any more as soon as each node has been on the way once.
    for _ in range(count + 1):
        fallen = NONE
        for arc, tail, head in endless:
            if dues[tail] + prices[arc] < dues[head]:
                dues[head] = dues[tail] + prices[arc]
                steps[head] = arc
                fallen = head
        if fallen == NONE:
            return None
    return _ring_behind(fallen, steps, arcs)


def _ring_behind(node, steps, arcs):
    """The ring that is met from the node back along the steps."""
    # As many steps back as there are nodes end on the ring itself.
    for _ in steps:
        node = arcs[steps[node]][0]
    first = node
    ring = [steps[first]]
    node = arcs[steps[first]][0]
    while node != first:
        ring.append(steps[node])
        node = arcs[steps[node]][0]
    return ring[::-1]


def best(needs, arcs, s, t, *, s_ahead=False, t_ahead=False):
    """(loads, heights): the cheapest loads at s and t, and heights that show it, with ahead also just beyond."""
    forest = cheapest(needs, arcs, (s, t), (int(s_ahead), int(t_ahead)))
    return (loads_of(forest, needs, arcs), heights_of(forest, arcs))
