"""Needs met way by way with what other nodes have left, until all are met or a set of nodes can get no more."""

from dialweir.forest import NONE


class Filling:
    """What each arc runs so far, and what each node lacks still (below nought: has left)."""

    def __init__(self, needs, ends, rooms):
        self.lacks = list(needs)
        self.ends = ends
        self.rooms = rooms
        self.running = [0] * len(ends)
        self.beside = [[] for _ in needs]
        for arc, (tail, head) in enumerate(ends):
            self.beside[head].append((arc, tail, True))
            self.beside[tail].append((arc, head, False))

    def lacking(self):
        """The nodes that get too little, all that could send them more among them; none where all needs are met."""
        while True:
            reached, steps, giver = self._reached()
            if giver == NONE:
                return sorted(reached)
            self._send(giver, steps)

    def _reached(self):
        """From the nodes that lack backward to one that has some left: (nodes, the step from each, that one)."""
        reached = [node for node, lack in enumerate(self.lacks) if lack > 0]
        steps = {node: (NONE, NONE, True) for node in reached}
        at = 0
        while at < len(reached):
            node = reached[at]
            at += 1
            if self.lacks[node] < 0:
                return (reached, steps, node)
            for arc, far, rises in self.beside[node]:
                if far not in steps and self._left(arc, rises) != 0:
                    steps[far] = (arc, node, rises)
                    reached.append(far)
        return (reached, steps, NONE)

    def _left(self, arc, rises):
        """By how much the arc's load can rise or fall, None without end."""
        if not rises:
            return self.running[arc]
        if self.rooms[arc] is None:
            return None
        return self.rooms[arc] - self.running[arc]

    def _send(self, giver, steps):
        """Send as much as can be from the giver along the steps to the node that lacks."""
        way = []
        node = giver
        while steps[node][0] != NONE:
            arc, far, rises = steps[node]
            way.append((arc, rises))
            node = far
        lefts = [self._left(arc, rises) for arc, rises in way]
        amount = min([-self.lacks[giver], self.lacks[node]] + [left for left in lefts if left is not None])
        for arc, rises in way:
            self.running[arc] += amount if rises else -amount
        self.lacks[giver] += amount
        self.lacks[node] -= amount
