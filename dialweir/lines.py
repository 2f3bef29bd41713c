"""Worths along one dial: broken lines, told by the points at their ends and at each bend."""

from dialweir.fracs import Span, plus, times
from dialweir.lower import fours_added
from dialweir.moves import product, value
from dialweir.pieces import Cover


def four_of(lowered, loads):
    """The four numbers of what loads of the plain net cost."""
    four = lowered.fixed
    for load, (_, _, _, price) in zip(loads, lowered.arcs):
        four = fours_added(four, product(load, price))
    return four


def line_by_s(four, t):
    """(start, slope) of the worth along s at this t."""
    fixed, by_s, by_t, by_both = four
    return (value((fixed, by_t), t), value((by_s, by_both), t))


def line_by_t(four, s):
    """(start, slope) of the worth along t at this s."""
    fixed, by_s, by_t, by_both = four
    return (value((fixed, by_s), s), value((by_t, by_both), s))


def points_by_s(lowered, s_span, t):
    """The points (s, worth) of the whole stretch at this t."""
    pieces = Cover(lowered.needs, lowered.arcs, s_span, Span(t, t)).pieces
    lines = [line_by_s(four_of(lowered, piece.loads), t) for piece in pieces]
    return _points(s_span.low, [piece.s_span.high for piece in pieces], lines)


def points_by_t(lowered, s, t_span):
    """The points (t, worth) of the whole stretch at this s."""
    pieces = Cover(lowered.needs, lowered.arcs, Span(s, s), t_span).pieces
    lines = [line_by_t(four_of(lowered, piece.loads), s) for piece in pieces]
    return _points(t_span.low, [piece.t_span.high for piece in pieces], lines)


def _points(low, ends, lines):
    """The ends and the bends of lines that follow one another, each up to its own end."""
    points = [_point(lines[0], low)]
    for number, line in enumerate(lines):
        goes_on = number + 1 < len(lines) and lines[number + 1] == line
        if ends[number] != low and not goes_on:
            points.append(_point(line, ends[number]))
    return points


def _point(line, at):
    start, slope = line
    return (at, plus(start, times(slope, at)))
