"""Whole numbers as they are written: figures without needless noughts, `-` ahead where below nought."""

FIGURES = "0123456789"


def read_whole(word, most):
    """The whole number that the word writes with at most so many figures, or None."""
    figures = word.removeprefix("-")
    # The length is looked at ahead of int(), which refuses words of some thousand figures.
    if len(figures) == 0 or len(figures) > most:
        return None
    if any([sign not in FIGURES for sign in figures]):
        return None
    number = int(word)
    # Needless noughts and `-0` are written otherwise than they were read.
    if str(number) != word:
        return None
    return number
