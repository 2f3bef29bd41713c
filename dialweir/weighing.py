"""Moves weighed at a setting: whole numbers that stand to each other as the moves' worths do there."""


def weighed(moves, at, ahead):
    """The weights of the moves; None stays None.

    They stand to each other as the worths at the setting do, or (ahead 1) at those just above it, or (ahead -1)
    just below it; so do their sums.
    """
    top, under = at
    if ahead == 0:
        return [None if move is None else move[0] * under + move[1] * top for move in moves]
    # A step tips the scale only where worths are alike: even some sums of all steps stay below one of worth.
    scale = 8 * (1 + sum([abs(move[1]) for move in moves if move is not None]))
    return [None if move is None else (move[0] * under + move[1] * top) * scale + ahead * move[1] for move in moves]


def weighed_loads(needs, arcs, s, ahead):
    """(needs, rooms) as weights of one scale."""
    weights = weighed(needs + [room for _, _, room, _ in arcs], s, ahead)
    return (weights[:len(needs)], weights[len(needs):])


def weighed_prices(arcs, t, ahead):
    """The arcs' prices as weights."""
    return weighed([price for _, _, _, price in arcs], t, ahead)
