"""The atlas of a net: what its cheapest plan costs, for all settings of both dials at once."""

from dialweir.cheapest import cheapest, loads_of
from dialweir.errors import Barred, NoBottom, Outside
from dialweir.fracs import Span, before, frac
from dialweir.lines import four_of, line_by_s, points_by_s, points_by_t
from dialweir.lower import Lowered
from dialweir.moves import four_at, value
from dialweir.pieces import Cover
from dialweir.stretches import barring, bottom_of, reach_of


class Oblong:
    """A stretch of s and one of t with a plan's rows, prices, and the four numbers of the worth on them."""

    def __init__(self, s_span, t_span, loads, prices, four):
        self.s_span = Span(s_span.low, s_span.high)
        self.t_span = Span(t_span.low, t_span.high)
        self.loads = list(loads)
        self.prices = list(prices)
        self.four = four

    def __eq__(self, other):
        return (
            isinstance(other, Oblong) and self.s_span == other.s_span and self.t_span == other.t_span
            and self.loads == other.loads and self.prices == other.prices and self.four == other.four
        )

    def __repr__(self):
        return f"Oblong({self.s_span}, {self.t_span})"

    def holds(self, s, t):
        return self.s_span.holds(s) and self.t_span.holds(t)

    def worth_at(self, s, t):
        return four_at(self.four, s, t)


def reach(net):
    """(span, low, high): the settings of s at which some plan fits, and set papers."""
    return _told_anew(reach_of(Lowered(net), net.s_box))


def bottom(net):
    """(span, low, high): the settings of t at which prices have a bottom, and ring papers."""
    return _told_anew(bottom_of(Lowered(net), net.t_box))


def _told_anew(told):
    """A told stretch without the lacks of its papers, and with papers that its holder may change."""
    span, low, high = told
    own_span = None if span is None else Span(span.low, span.high)
    return (own_span, _paper_anew(low), _paper_anew(high))


def _paper_anew(found):
    if found is None:
        return None
    paper, _ = found
    if isinstance(paper, tuple):
        side, places = paper
        return (side, list(places))
    return list(paper)


class Atlas:
    """All that a net's cheapest plans cost, of the net as it stood when the atlas was made."""

    def __init__(self, net):
        self._lowered = Lowered(net)
        self._s_box = net.s_box
        self._t_box = net.t_box
        self._reach = reach_of(self._lowered, net.s_box)
        self._bottom = bottom_of(self._lowered, net.t_box)
        # Looked for when they are first asked for, for most questions need none of them.
        self._oblongs = None

    def __len__(self):
        if self._oblongs is None:
            return len(_oblongs_of(self._lowered, self._reach[0], self._bottom[0]))
        return len(self._oblongs)

    def told(self):
        """Oblongs that cover all settings of both stretches, new ones at each asking."""
        if self._oblongs is None:
            self._oblongs = _oblongs_of(self._lowered, self._reach[0], self._bottom[0])
        return [Oblong(one.s_span, one.t_span, one.loads, one.prices, one.four) for one in self._oblongs]

    def reach(self):
        """As the function of this name tells."""
        return _told_anew(self._reach)

    def bottom(self):
        """As the function of this name tells."""
        return _told_anew(self._bottom)

    def worth(self, s, t):
        """What the cheapest plan costs."""
        self._check(s, t)
        return four_at(four_of(self._lowered, self._loads(s, t, 0)), s, t)

    def plan(self, s, t):
        """(name, hour, load) for each part, of a cheapest plan."""
        self._check(s, t)
        rows = self._lowered.up_plan(self._loads(s, t, 0))
        return [(name, hour, value((base, step), s)) for name, hour, base, step in rows]

    def along_s(self, t):
        """The points (s, worth) at the ends of the stretch of s and at each bend."""
        _check_inside("t", t, self._t_box)
        self._check_bottom(t)
        span, low, _ = self._reach
        if span is None:
            raise Barred(low[0])
        return points_by_s(self._lowered, span, t)

    def along_t(self, s):
        """The points (t, worth) at the ends of the stretch of t and at each bend."""
        _check_inside("s", s, self._s_box)
        self._check_reach(s)
        span, low, _ = self._bottom
        if span is None:
            raise NoBottom(low[0])
        return points_by_t(self._lowered, s, span)

    def slopes(self, s, t):
        """(left, right): by how much the worth grows with s on either side, None where the stretch of s ends."""
        self._check(s, t)
        span, _, _ = self._reach
        left = None if s == span.low else line_by_s(four_of(self._lowered, self._loads(s, t, -1)), t)[1]
        right = None if s == span.high else line_by_s(four_of(self._lowered, self._loads(s, t, 1)), t)[1]
        return (left, right)

    def _loads(self, s, t, ahead):
        """The cheapest loads of the plain net at s and t, or (ahead 1 or -1) also just above s or just below it."""
        needs, arcs = self._lowered.needs, self._lowered.arcs
        return loads_of(cheapest(needs, arcs, (s, t), (ahead, 0)), needs, arcs)

    def _check(self, s, t):
        """Refuse settings at which there is no worth."""
        _check_inside("s", s, self._s_box)
        _check_inside("t", t, self._t_box)
        self._check_reach(s)
        self._check_bottom(t)

    def _check_reach(self, s):
        paper = barring(self._reach, s)
        if paper is not None:
            raise Barred(paper)

    def _check_bottom(self, t):
        paper = barring(self._bottom, t)
        if paper is not None:
            raise NoBottom(paper)


def _check_inside(dial, at, box):
    low, high = box
    if before(at, frac(low)) or before(frac(high), at):
        raise Outside(dial, at)


def _oblongs_of(lowered, s_span, t_span):
    """The oblongs that cover both stretches; where one is missing there are none."""
    if s_span is None or t_span is None:
        return []
    oblongs = []
    for piece in Cover(lowered.needs, lowered.arcs, s_span, t_span).pieces:
        loads = lowered.up_plan(piece.loads)
        prices = lowered.up_prices(piece.heights)
        oblongs.append(Oblong(piece.s_span, piece.t_span, loads, prices, four_of(lowered, piece.loads)))
    return oblongs
