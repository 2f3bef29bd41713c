"""Pieces: stretches of both dials, each with loads that are the cheapest on all of it and heights that show it."""

from dialweir.cheapest import cheapest, heights_of, loads_of
from dialweir.fracs import Span, before
from dialweir.moves import add, nought, take, turned, value

ZERO = (0, 1)


class Piece:
    """A stretch of s and one of t, with a forest that is the cheapest on all of both, its loads and its heights."""

    def __init__(self, forest, spans, loads, heights):
        self.forest = forest
        self.s_span = spans[0]
        self.t_span = spans[1]
        self.loads = loads
        self.heights = heights


class Cover:
    """The pieces that cover all settings of two stretches, found row by row from the least t to the greatest."""

    def __init__(self, needs, arcs, s_span, t_span):
        self.needs = needs
        self.arcs = arcs
        self.s_span = s_span
        self.t_span = t_span
        self.shut = [_is_shut(room, s_span) for _, _, room, _ in arcs]
        self.pieces = []
        row = self._first_row(t_span.low)
        # A row holds up to where the first of its pieces ends.
        t = _least([piece.t_span.high for piece in row])
        while before(t, t_span.high):
            row = self._next_row(t, row)
            t = _least([piece.t_span.high for piece in row])

    def _first_row(self, t):
        """Pieces from the least s to the greatest."""
        row = [self._piece(self.s_span.low, t, None)]
        while before(row[-1].s_span.high, self.s_span.high):
            row.append(self._piece(row[-1].s_span.high, t, row[-1].forest))
        return row

    def _next_row(self, t, row_below):
        """Pieces as in the row below, with new ones instead of those that end at t."""
        row = []
        s = self.s_span.low
        for below in row_below:
            # Where s has one setting alone nothing is ahead of it, and yet there is a piece.
            while len(row) == 0 or before(s, below.s_span.high):
                goes_on = before(t, below.t_span.high)
                piece = below if goes_on else self._piece(s, t, below.forest)
                row.append(piece)
                s = piece.s_span.high
        return row

    def _piece(self, s, t, start):
        """A new piece that holds s and t and, where their stretches go on, settings just above them."""
        s_ahead = before(s, self.s_span.high)
        t_ahead = before(t, self.t_span.high)
        forest = cheapest(self.needs, self.arcs, (s, t), (int(s_ahead), int(t_ahead)), start)
        loads = loads_of(forest, self.needs, self.arcs)
        heights = heights_of(forest, self.arcs)
        s_span = self._fitting(loads) if s_ahead else Span(s, s)
        t_span = self._suiting(forest, heights) if t_ahead else Span(t, t)
        piece = Piece(forest, (s_span, t_span), loads, heights)
        self.pieces.append(piece)
        return piece

    def _fitting(self, loads):
        """The stretch of s on which the loads fit."""
        moves = list(loads)
        for load, (_, _, room, _) in zip(loads, self.arcs):
            if room is not None:
                moves.append(take(room, load))
        return _stretch_above(moves, self.s_span)

    def _suiting(self, forest, heights):
        """The stretch of t on which no arc gains by another load; an arc without room has no other load."""
        moves = []
        for arc, (tail, head, _, price) in enumerate(self.arcs):
            if not forest.inside[arc] and not self.shut[arc]:
                loss = take(add(price, heights[tail]), heights[head])
                moves.append(turned(loss) if forest.full[arc] else loss)
        return _stretch_above(moves, self.t_span)


def _is_shut(room, span):
    """Whether the room is nought on all of the stretch."""
    return room is not None and value(room, span.low) == ZERO and value(room, span.high) == ZERO


def _least(settings):
    least = settings[0]
    for at in settings:
        if before(at, least):
            least = at
    return least


def _stretch_above(moves, span):
    """The part of the stretch on which none of the moves is below nought, where that is somewhere so."""
    low, high = span.low, span.high
    for move in moves:
        at = nought(move)
        if move[1] > 0 and before(low, at):
            low = at
        elif move[1] < 0 and before(at, high):
            high = at
    return Span(low, high)
