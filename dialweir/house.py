"""A house of nets by names, with deeds that are taken back and done again, and its page."""

from dialweir.atlas import Atlas, bottom, reach
from dialweir.errors import BadRow, BadWord, NoMark, NoNet, NothingThere, Taken, TooMany, WeirError
from dialweir.names import check_name
from dialweir.rowing import FORM, exactly, row_number, row_words
from dialweir.tongue import HEADS, read_net

MOST_NETS = 8
NET = "net"


class House:
    """Nets by names; each deed that is granted can be taken back, and done again."""

    def __init__(self, *, limit=MOST_NETS):
        self.limit = limit
        # The nets by names, in the order in which they came. No such dict, and no net in one, is ever changed: a deed
        # makes new ones, so that those of the past and of marks stay as they were.
        self._nets = {}
        self._past = []
        self._undone = []
        self._marks = {}

    def __eq__(self, other):
        return isinstance(other, House) and self.page() == other.page()

    def __len__(self):
        return len(self._nets)

    def begin(self, name, text):
        """A new net, of this text."""
        self._check_new(name)
        self._grant({**self._nets, name: read_net(text)})

    def twin(self, name, other):
        """A new net like another one, called `other`."""
        net = self._net(name)
        self._check_new(other)
        self._grant({**self._nets, other: net})

    def drop(self, name):
        """A net taken out."""
        self._net(name)
        self._grant({told: net for told, net in self._nets.items() if told != name})

    def edit(self, name, lines):
        """Rows done on a net, all or not at all."""
        net = self._net(name).twin()
        net.rows(lines)
        self._grant({**self._nets, name: net})

    def back(self, word):
        """All nets again as at the mark."""
        if word not in self._marks:
            raise NoMark(word)
        self._grant(self._marks[word])

    def mark(self, word):
        """A mark of the nets as they are; one that is told again moves here."""
        check_name(word)
        self._marks[word] = self._nets

    def undo(self):
        """The last deed taken back."""
        if len(self._past) == 0:
            raise NothingThere("undo")
        self._undone.append(self._nets)
        self._nets = self._past.pop()

    def redo(self):
        """The deed that was taken back last done again."""
        if len(self._undone) == 0:
            raise NothingThere("redo")
        self._past.append(self._nets)
        self._nets = self._undone.pop()

    def names(self):
        return list(self._nets)

    def text(self, name):
        return str(self._net(name))

    def net(self, name):
        """A net like the house's, that stands by itself."""
        return self._net(name).twin()

    def worth(self, name, s, t):
        """What the atlas of the net tells."""
        return Atlas(self._net(name)).worth(s, t)

    def span_of(self, name):
        """The stretch of s at which some plan of the net fits, or None."""
        return reach(self._net(name))[0]

    def bottom_of(self, name):
        """The stretch of t at which prices of the net have a bottom, or None."""
        return bottom(self._net(name))[0]

    def page(self):
        """The texts of all nets, each behind a row that tells its name and how many rows it has."""
        rows = []
        for name, net in self._nets.items():
            told = str(net).split("\n")
            rows.append(f"{NET} {name} {len(told)}")
            rows.extend(told)
        return "\n".join(rows)

    def _net(self, name):
        """The house's own net of this name."""
        if name not in self._nets:
            raise NoNet(name)
        return self._nets[name]

    def _check_new(self, name):
        """Refuse a name for one net more."""
        check_name(name)
        if name in self._nets:
            raise Taken(name)
        if len(self._nets) >= self.limit:
            raise TooMany(self.limit)

    def _grant(self, nets):
        """The nets as a deed makes them; what was taken back ahead of it is gone."""
        self._past.append(self._nets)
        self._undone = []
        self._nets = nets


def read_page(text):
    """The house whose page this is."""
    house = House()
    rows = text.split("\n") if text != "" else []
    at = 0
    while at < len(rows):
        name, count = _head_told(house, rows[at], at + 1)
        first = at + 1
        at = first + count
        if at > len(rows):
            raise BadRow(len(rows) + 1, FORM)
        # What a page tells is no deed: there is nothing to be taken back.
        house._nets = {**house._nets, name: _net_told(rows[first:at], first)}
    return house


def _head_told(house, row, number):
    """(name, count) of a net's head, where the house may have a net of this name."""
    try:
        name, count = _head_words(row)
        house._check_new(name)
    except BadWord:
        raise BadRow(number, FORM) from None
    except WeirError as refusal:
        raise BadRow(number, refusal.word) from None
    return (name, count)


def _head_words(row):
    words = exactly(3, row_words(row))
    count = row_number(words[2])
    if words[0] != NET or count < HEADS:
        raise BadWord(row)
    return (words[1], count)


def _net_told(rows, ahead):
    """The net of these rows of a page, with so many rows ahead of them."""
    try:
        return read_net("\n".join(rows))
    except BadRow as refusal:
        raise BadRow(ahead + refusal.number, refusal.why) from None
