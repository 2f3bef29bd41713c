"""Steps from forest to forest: to one whose loads fit, and from there to one whose loads are the cheapest.

Needs, rooms and prices are whole numbers here, one for each node or arc; a room None is without end.
"""

from dialweir.forest import NONE


def make_fit(forest, needs, rooms, prices):
    """Step to a forest that fits; where no arc wanted to change its load ahead of that, none will behind it."""
    while True:
        flows = forest.flows(needs, rooms)
        leaving = _first_misfit(flows, rooms)
        if leaving == NONE:
            return flows
        full = flows[leaving] > 0
        entering = _nearest_relief(forest, rooms, prices, leaving, full)
        # Without relief no loads exist at all.
        if entering == NONE:
            return flows
        forest.swap(entering, leaving)
        forest.full[leaving] = full


def _first_misfit(flows, rooms):
    """The first arc whose load is below nought or beyond its room."""
    for arc, (flow, room) in enumerate(zip(flows, rooms)):
        if flow < 0 or (room is not None and flow > room):
            return arc
    return NONE


def _nearest_relief(forest, rooms, prices, leaving, full):
    """The arc that can run what the leaving one cannot at the least loss, of such arcs the first."""
    levels = forest.levels(prices)
    hung = forest.hung_by(leaving)
    start = hung[forest.ends[leaving][0]]
    chosen = NONE
    least = 0
    for arc, (tail, head) in enumerate(forest.ends):
        if forest.inside[arc] or rooms[arc] == 0 or hung[tail] == hung[head]:
            continue
        # A full arc can run less alone, an empty one more alone.
        if ((hung[tail] == start) == full) == forest.full[arc]:
            continue
        loss = abs(prices[arc] + levels[tail] - levels[head])
        if chosen == NONE or loss < least:
            chosen = arc
            least = loss
    return chosen


def make_cheapest(forest, flows, rooms, prices):
    """Step to a forest at whose levels no arc gains by another load; the flows go along."""
    stuck = False
    while True:
        entering = _best_gain(forest, rooms, prices, stuck)
        if entering == NONE:
            return
        # Where nothing moved, the first arc instead of the best one keeps from going round for ever.
        stuck = not _run_round(forest, flows, rooms, entering)


def _best_gain(forest, rooms, prices, first):
    """The arc that gains most by another load, or the first one that gains."""
    levels = forest.levels(prices)
    chosen = NONE
    most = 0
    for arc, (tail, head) in enumerate(forest.ends):
        if forest.inside[arc] or rooms[arc] == 0:
            continue
        gain = levels[head] - levels[tail] - prices[arc]
        if forest.full[arc]:
            gain = -gain
        if gain > most:
            chosen = arc
            most = gain
            if first:
                break
    return chosen


def _run_round(forest, flows, rooms, entering):
    """Run as much as can be round the ring that the entering arc closes; tell whether that was anything."""
    more = not forest.full[entering]
    ring = [(entering, more)]
    ring.extend([(arc, along == more) for arc, along in forest.way_back(entering)])
    leaving = NONE
    amount = 0
    for arc, rises in ring:
        left = _left(flows[arc], rooms[arc], rises)
        if left is not None and (leaving == NONE or left < amount or (left == amount and arc < leaving)):
            leaving = arc
            amount = left
    for arc, rises in ring:
        flows[arc] += amount if rises else -amount
    fills = (leaving, True) in ring
    if leaving != entering:
        forest.swap(entering, leaving)
    forest.full[leaving] = fills
    return amount > 0


def _left(flow, room, rises):
    """By how much the load can rise or fall, None without end."""
    if not rises:
        return flow
    if room is None:
        return None
    return room - flow
