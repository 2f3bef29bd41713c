"""A plan's loads parted into ways and rings, and joined again."""

from dialweir.errors import NoPlan
from dialweir.fracs import frac, plus
from dialweir.looker import plan_fault
from dialweir.lower import unrolled

WAY = "way"
RING = "ring"
NOUGHT = (0, 1)


class Rest:
    """What of a plan is not yet parted: the load of each arc and the want of each spot, as whole numbers."""

    def __init__(self, arcs, wants, loads):
        self.tails = [arc[2] for arc in arcs]
        self.heads = [arc[3] for arc in arcs]
        self.wants = wants
        self.loads = loads
        self.leaving = [[] for _ in wants]
        for number, tail in enumerate(self.tails):
            self.leaving[tail].append(number)

    def start(self):
        """A spot that gives, else one that something leaves still, else None."""
        for spot, want in enumerate(self.wants):
            if want < 0:
                return spot
        for number, load in enumerate(self.loads):
            if load > 0:
                return self.tails[number]
        return None

    def walk(self, spot):
        """(kind, numbers): arcs from the spot on, up to the first spot that wants or has been met ahead of it."""
        numbers = []
        met = {}
        while spot not in met:
            if self.wants[spot] > 0:
                return (WAY, numbers)
            met[spot] = len(numbers)
            # What came here, or is given here, and is not wanted here leaves again.
            number = self._loaded(spot)
            numbers.append(number)
            spot = self.heads[number]
        return (RING, numbers[met[spot]:])

    def _loaded(self, spot):
        return [number for number in self.leaving[spot] if self.loads[number] > 0][0]

    def take_away(self, kind, numbers):
        """The most that runs along all of these arcs, taken away from what is left."""
        amount = min([self.loads[number] for number in numbers])
        if kind == WAY:
            first, last = self.tails[numbers[0]], self.heads[numbers[-1]]
            amount = min(amount, -self.wants[first], self.wants[last])
            self.wants[first] += amount
            self.wants[last] -= amount
        for number in numbers:
            self.loads[number] -= amount
        return amount


def parted(net, loads, s):
    """The rows (kind, amount, parts) of the ways and rings that the plan's rows are at s."""
    fault = plan_fault(net, loads, s)
    if fault is not None:
        raise NoPlan(fault)
    _, wants, _, arcs = unrolled(net)
    # All amounts at s are whole numbers once they are as many times as great as its under tells.
    top, under = s
    amounts = [base * under + step * top for _, _, base, step in loads]
    rest = Rest(arcs, [base * under + step * top for base, step in wants], amounts)
    rows = []
    start = rest.start()
    while start is not None:
        kind, numbers = rest.walk(start)
        amount = rest.take_away(kind, numbers)
        rows.append((kind, frac(amount, under), [arcs[number][:2] for number in numbers]))
        start = rest.start()
    return rows


def joined(net, rows):
    """(name, hour, load) for all parts in order: what the rows come to."""
    loads = {part: NOUGHT for part in net.parts()}
    for _, amount, parts in rows:
        for part in parts:
            loads[part] = plus(loads[part], amount)
    return [(name, hour, loads[name, hour]) for name, hour in net.parts()]
