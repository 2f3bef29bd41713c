"""Moves, pairs (base, step) of whole numbers: at a setting x of its dial a move is worth base + step times x."""

from dialweir.errors import BadWord
from dialweir.figures import read_whole
from dialweir.fracs import frac, plus, times

MOST_FIGURES = 7


def add(m, n):
    return (m[0] + n[0], m[1] + n[1])


def take(m, n):
    """m less n."""
    return (m[0] - n[0], m[1] - n[1])


def turned(m):
    """The move with its signs turned."""
    return (-m[0], -m[1])


def value(m, at):
    """What the move is worth at a setting, a fraction."""
    base, step = m
    return plus(frac(base), times(frac(step), at))


def nought(m):
    """The setting at which the move is nought, None where its step is 0."""
    base, step = m
    if step == 0:
        return None
    return frac(-base, step)


def product(m, n):
    """The four numbers (fixed, by s, by t, by both) of a move by s times a move by t."""
    return (m[0] * n[0], m[1] * n[0], m[0] * n[1], m[1] * n[1])


def four_at(four, s, t):
    """What the four numbers are worth at a setting of s and one of t."""
    fixed, by_s, by_t, by_both = four
    return plus(value((fixed, by_s), s), times(value((by_t, by_both), s), t))


def written(m, letter):
    """The text of a move: its base and, where its step is not 0, the step with its sign and the letter."""
    base, step = m
    if step == 0:
        return str(base)
    return f"{base}{step:+d}{letter}"


def read_move(text, letter):
    """The move whose text with this letter, as written tells it, this is."""
    base_word, step_word = _words_of(text, letter)
    base = read_whole(base_word, MOST_FIGURES)
    step = read_whole(step_word, MOST_FIGURES)
    if base is None or step is None:
        raise BadWord(text)
    # Each move has one text alone: `3+0s` and `12s` are none, though numbers are found in them.
    if written((base, step), letter) != text:
        raise BadWord(text)
    return (base, step)


def _words_of(text, letter):
    """The words of base and step, parted where the step's sign stands; read_move looks at them."""
    if not text.endswith(letter):
        return (text, "0")
    body = text.removesuffix(letter)
    at = max(body.rfind("+"), body.rfind("-"), 0)
    return (body[:at], body[at:].removeprefix("+"))
