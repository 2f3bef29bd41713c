"""Fractions, pairs (top, under) in lowest terms with the under at least 1, and stretches of them."""

from math import gcd
from dialweir.errors import BadSpan, BadWord, NoFraction
from dialweir.figures import read_whole

MOST_FIGURES = 30
HALF = (1, 2)


def frac(top, under=1):
    """The fraction top by under."""
    if under == 0:
        raise NoFraction()
    shared = gcd(top, under)
    if under < 0:
        shared = -shared
    return (top // shared, under // shared)


def plus(a, b):
    return frac(a[0] * b[1] + b[0] * a[1], a[1] * b[1])


def less(a, b):
    """a less b."""
    return frac(a[0] * b[1] - b[0] * a[1], a[1] * b[1])


def times(a, b):
    return frac(a[0] * b[0], a[1] * b[1])


def over(a, b):
    """a divided by b; where b is nought, frac refuses it."""
    return frac(a[0] * b[1], a[1] * b[0])


def before(a, b):
    """Whether a is less than b."""
    return a[0] * b[1] < b[0] * a[1]


def shown(a):
    """The text of a fraction: `7/2`, or `3` where the under is 1."""
    top, under = a
    if under == 1:
        return str(top)
    return f"{top}/{under}"


def read_frac(text):
    """The fraction whose text, as shown tells it, this is."""
    top_word, stroke, under_word = text.partition("/")
    top = read_whole(top_word, MOST_FIGURES)
    under = read_whole(under_word, MOST_FIGURES) if stroke else 1
    if top is None or under is None or under == 0:
        raise BadWord(text)
    a = frac(top, under)
    # Each fraction has one text alone: `3/1`, `2/4` and `1/-2` are other ways to write one.
    if shown(a) != text:
        raise BadWord(text)
    return a


class Span:
    """A stretch of fractions with both its ends."""

    def __init__(self, low, high):
        if before(high, low):
            raise BadSpan()
        self.low = low
        self.high = high

    def __eq__(self, other):
        return isinstance(other, Span) and self.low == other.low and self.high == other.high

    def __str__(self):
        return f"{shown(self.low)}..{shown(self.high)}"

    def __repr__(self):
        return f"Span({self.low!r}, {self.high!r})"

    def holds(self, at):
        return not before(at, self.low) and not before(self.high, at)

    def meet(self, other):
        """The stretch that both have, or None."""
        low = other.low if before(self.low, other.low) else self.low
        high = other.high if before(other.high, self.high) else self.high
        if before(high, low):
            return None
        return Span(low, high)

    def middle(self):
        return times(plus(self.low, self.high), HALF)

    def single(self):
        """Whether the stretch is one setting alone."""
        return self.low == self.high
