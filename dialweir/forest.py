"""Spanning forests of plain nets: the arcs in a forest run what the needs ask for, all others stand empty or full."""

NONE = -1


class Forest:
    """A spanning forest of a plain net's arcs, and which of the other arcs are full."""

    def __init__(self, count, ends, inside):
        self.ends = ends
        self.inside = inside
        self.full = [False] * len(ends)
        self.beside = [[] for _ in range(count)]
        for arc, (tail, head) in enumerate(ends):
            if inside[arc]:
                self.beside[tail].append(arc)
                self.beside[head].append(arc)
        self.hang()

    def twin(self):
        """A forest like this one that stands by itself."""
        other = Forest(len(self.beside), self.ends, list(self.inside))
        other.full = list(self.full)
        return other

    def hang(self):
        """Hang each tree up at its first node: the nodes from the roots down, with the node and the arc above each."""
        count = len(self.beside)
        self.order = []
        self.above = [NONE] * count
        self.by = [NONE] * count
        self.rank = [NONE] * count
        for root in range(count):
            if self.rank[root] == NONE:
                self._hang_tree(root)

    def _hang_tree(self, root):
        order, above, by, rank = self.order, self.above, self.by, self.rank
        at = len(order)
        rank[root] = at
        order.append(root)
        while at < len(order):
            node = order[at]
            at += 1
            for arc in self.beside[node]:
                tail, head = self.ends[arc]
                far = tail + head - node
                if rank[far] == NONE:
                    rank[far] = len(order)
                    above[far] = node
                    by[far] = arc
                    order.append(far)

    def flows(self, needs, rooms):
        """What each arc runs so that all nodes but the roots have what they need."""
        lacks = list(needs)
        flows = [0] * len(self.ends)
        for arc, (tail, head) in enumerate(self.ends):
            if self.full[arc]:
                flows[arc] = rooms[arc]
                lacks[tail] += rooms[arc]
                lacks[head] -= rooms[arc]
        for node in reversed(self.order):
            arc = self.by[node]
            if arc != NONE:
                lack = lacks[node]
                flows[arc] = lack if self.ends[arc][1] == node else -lack
                lacks[self.above[node]] += lack
        return flows

    def levels(self, prices):
        """The heights of all nodes, nought at the roots, at which no arc of the forest gains or loses."""
        levels = [0] * len(self.beside)
        for node in self.order:
            arc = self.by[node]
            if arc != NONE:
                rise = prices[arc] if self.ends[arc][1] == node else -prices[arc]
                levels[node] = levels[self.above[node]] + rise
        return levels

    def swap(self, entering, leaving):
        """Let one arc into the forest and another one out of it."""
        self.inside[entering] = True
        self.inside[leaving] = False
        self.full[entering] = False
        for node in self.ends[entering]:
            self.beside[node].append(entering)
        for node in self.ends[leaving]:
            self.beside[node].remove(leaving)
        self.hang()

    def way_back(self, arc):
        """The forest's arcs from the arc's head back to its tail, each with True where it leads that way."""
        tail, head = self.ends[arc]
        rank, above, by = self.rank, self.above, self.by
        climbed = []
        while tail != head:
            # Whoever is hung later is not above the other one.
            if rank[head] > rank[tail]:
                climbed.append((by[head], self.ends[by[head]][0] == head))
                head = above[head]
            else:
                climbed.append((by[tail], self.ends[by[tail]][1] == tail))
                tail = above[tail]
        return climbed

    def hung_by(self, arc):
        """For each node whether it hangs, with others between or not, by this arc of the forest."""
        hung = [False] * len(self.beside)
        for node in self.order:
            if self.by[node] == arc or (self.above[node] != NONE and hung[self.above[node]]):
                hung[node] = True
        return hung
