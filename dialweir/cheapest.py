"""Forests of the cheapest loads of plain nets, and the loads and heights that forests tell."""

from dialweir.forest import Forest
from dialweir.steps import make_cheapest, make_fit
from dialweir.weighing import weighed_loads, weighed_prices


def first_forest(count, arcs):
    """Some spanning forest, all other arcs empty; arcs without end, whose loads fit sooner, come first."""
    ends = [(tail, head) for tail, head, _, _ in arcs]
    endless = [arc for arc, (_, _, room, _) in enumerate(arcs) if room is None]
    others = [arc for arc, (_, _, room, _) in enumerate(arcs) if room is not None]
    inside = [False] * len(arcs)
    trees = list(range(count))
    for arc in endless + others:
        one, other = [trees[node] for node in ends[arc]]
        if one != other:
            inside[arc] = True
            trees = [one if tree == other else tree for tree in trees]
    return Forest(count, ends, inside)


def cheapest(needs, arcs, settings, ahead, start=None):
    """A forest of the cheapest loads at the settings (s, t), or just ahead of them as `weighed` tells.

    The steps begin at the start, a forest that is the cheapest at the same s or at the same t.
    """
    need_weights, rooms = weighed_loads(needs, arcs, settings[0], ahead[0])
    prices = weighed_prices(arcs, settings[1], ahead[1])
    if start is None:
        forest = first_forest(len(needs), arcs)
        # Where nothing costs anything each forest is the cheapest.
        flows = make_fit(forest, need_weights, rooms, [0] * len(arcs))
    else:
        forest = start.twin()
        flows = make_fit(forest, need_weights, rooms, prices)
    make_cheapest(forest, flows, rooms, prices)
    return forest


def loads_of(forest, needs, arcs):
    """The forest's loads, a move for each arc."""
    base_rooms = [None if room is None else room[0] for _, _, room, _ in arcs]
    step_rooms = [None if room is None else room[1] for _, _, room, _ in arcs]
    bases = forest.flows([base for base, _ in needs], base_rooms)
    steps = forest.flows([step for _, step in needs], step_rooms)
    return list(zip(bases, steps))


def heights_of(forest, arcs):
    """The forest's heights, a move for each node."""
    bases = forest.levels([price[0] for _, _, _, price in arcs])
    steps = forest.levels([price[1] for _, _, _, price in arcs])
    return list(zip(bases, steps))
