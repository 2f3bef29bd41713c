"""The settings of a dial's box that no paper bars, with the papers that bar the others.

A paper stands here beside its lack, a move that is above nought where the paper bars; for rings that is their price
with its sign turned.
"""

from dialweir.fracs import Span, before, frac
from dialweir.moves import add, nought, take, turned, value
from dialweir.solve import bar, ring_at

ZERO = (0, 1)
NOUGHT = (0, 0)


def free_stretch(box, look):
    """(span, low, high) of a box: the stretch with the papers at its ends, or None with papers that bar all settings.

    What bars a setting is told by `look`: None, or (paper, lack).
    """
    least, greatest = frac(box[0]), frac(box[1])
    at = least
    low = None
    found = look(at)
    while found is not None:
        _, lack = found
        if bars(found, least) and bars(found, greatest):
            return (None, found, None)
        # A lack that rises bars all that is beyond, and the paper ahead of it all that is below.
        if lack[1] > 0:
            return (None, low, found)
        at = nought(lack)
        low = found
        found = look(at)
    end, high = _end_of_stretch(greatest, look)
    return (Span(at, end), low, high)


def _end_of_stretch(greatest, look):
    """The greatest setting that nothing bars, where there is one, and the paper that bars those beyond it."""
    at = greatest
    high = None
    found = look(at)
    while found is not None:
        high = found
        at = nought(found[1])
        found = look(at)
    return (at, high)


def bars(found, at):
    """Whether the paper bars the setting."""
    return before(ZERO, value(found[1], at))


def barring(told, at):
    """Of the papers of a told stretch one that bars the setting, or None."""
    _, low, high = told
    for found in (low, high):
        if found is not None and bars(found, at):
            return found[0]
    return None


def reach_of(lowered, s_box):
    """The settings of s at which some plan fits, with set papers."""
    needs, arcs = lowered.needs, lowered.arcs

    def look(at):
        barred = bar(needs, arcs, at)
        if barred is None:
            return None
        side, numbers = barred
        return (lowered.up_set(side, numbers), _lack(needs, arcs, side, numbers))

    return free_stretch(s_box, look)


def bottom_of(lowered, t_box):
    """The settings of t at which no ring is below nought, with ring papers."""
    count, arcs = len(lowered.needs), lowered.arcs

    def look(at):
        ring = ring_at(count, arcs, at)
        if ring is None:
            return None
        return (lowered.up_ring(ring), turned(_price(arcs, ring)))

    return free_stretch(t_box, look)


def _lack(needs, arcs, side, numbers):
    """By how much the need of a set of nodes is greater than the rooms by which it could be met."""
    held = set(numbers)
    lack = NOUGHT
    for number in numbers:
        lack = add(lack, needs[number]) if side == "in" else take(lack, needs[number])
    for tail, head, room, _ in arcs:
        start, end = (tail, head) if side == "in" else (head, tail)
        if end in held and start not in held:
            lack = take(lack, room)
    return lack


def _price(arcs, ring):
    """The sum of the prices of a ring's arcs."""
    total = NOUGHT
    for number in ring:
        total = add(total, arcs[number][3])
    return total
