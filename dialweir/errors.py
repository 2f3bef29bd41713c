"""Every refusal of the program, each under its family, all of them under WeirError."""


class WeirError(ValueError):
    """Any refusal; its word tells which one it is."""

    def __init__(self, word):
        ValueError.__init__(self, word)
        self.word = word


def _copied(paper):
    """The paper anew, so that a refusal never keeps a list that its caller may change."""
    if isinstance(paper, list):
        return [_copied(part) for part in paper]
    if isinstance(paper, tuple):
        return tuple([_copied(part) for part in paper])
    return paper


class FormError(WeirError):
    """A text, a number or a stretch that is not of the form that is asked for."""


class BadName(FormError):
    """A name that is not of the form of names."""

    def __init__(self, name):
        FormError.__init__(self, "bad name")
        self.name = name


class BadRow(FormError):
    """A row of a text, by its number from 1, and why it is refused."""

    def __init__(self, number, why):
        FormError.__init__(self, "bad row")
        self.number = number
        self.why = why


class BadWord(FormError):
    """A word that does not write what is asked for."""

    def __init__(self, said):
        FormError.__init__(self, "bad word")
        self.said = said


class NoFraction(FormError):
    """A fraction whose under would be nought."""

    def __init__(self):
        FormError.__init__(self, "no fraction")


class BadSpan(FormError):
    """A stretch whose high end is before its low one."""

    def __init__(self):
        FormError.__init__(self, "bad span")


class NetError(WeirError):
    """Something that a net does not grant."""


class BadHours(NetError):
    """A number of hours that no net has."""

    def __init__(self, number):
        NetError.__init__(self, "bad hours")
        self.number = number


class BadBox(NetError):
    """A dial's box whose low end is above its high one."""

    def __init__(self, dial):
        NetError.__init__(self, "bad box")
        self.dial = dial


class TooFar(NetError):
    """A whole number beyond the bounds."""

    def __init__(self, number):
        NetError.__init__(self, "too far")
        self.number = number


class TooMany(NetError):
    """More than the most that may be there."""

    def __init__(self, most):
        NetError.__init__(self, "too many")
        self.most = most


class TooGreat(NetError):
    """A net with too many plain arcs, by how many they would be."""

    def __init__(self, number):
        NetError.__init__(self, "too great")
        self.number = number


class Taken(NetError):
    """A name that something has already."""

    def __init__(self, name):
        NetError.__init__(self, "taken")
        self.name = name


class NoPlace(NetError):
    """A place that is not there."""

    def __init__(self, name):
        NetError.__init__(self, "no place")
        self.name = name


class NoRoad(NetError):
    """A road that is not there."""

    def __init__(self, name):
        NetError.__init__(self, "no road")
        self.name = name


class NoName(NetError):
    """A name that neither a place nor a road has."""

    def __init__(self, name):
        NetError.__init__(self, "no name")
        self.name = name


class NoHour(NetError):
    """An hour that the net does not have."""

    def __init__(self, number):
        NetError.__init__(self, "no hour")
        self.number = number


class InUse(NetError):
    """A place at which a road begins or ends."""

    def __init__(self, name):
        NetError.__init__(self, "in use")
        self.name = name


class Below(NetError):
    """A floor or a room that is below nought somewhere in the box."""

    def __init__(self, name):
        NetError.__init__(self, "below")
        self.name = name


class Falls(NetError):
    """A rung that is cheaper than the one ahead of it somewhere in the box."""

    def __init__(self, name):
        NetError.__init__(self, "falls")
        self.name = name


class BadRungs(NetError):
    """Rungs of a road that are none, too many, or without end ahead of the last."""

    def __init__(self, name):
        NetError.__init__(self, "bad rungs")
        self.name = name


class BadTakes(NetError):
    """A number of hours that no road takes."""

    def __init__(self, number):
        NetError.__init__(self, "bad takes")
        self.number = number


class DialError(WeirError):
    """A setting of the dials at which nothing can be told."""


class Outside(DialError):
    """A setting out of the box of its dial."""

    def __init__(self, dial, at):
        DialError.__init__(self, "outside")
        self.dial = dial
        self.at = at


class Barred(DialError):
    """A setting of s at which no plan fits, with the set paper that bars it."""

    def __init__(self, paper):
        DialError.__init__(self, "barred")
        self.paper = _copied(paper)


class NoBottom(DialError):
    """A setting of t at which prices have no bottom, with the ring paper that tells it."""

    def __init__(self, paper):
        DialError.__init__(self, "no bottom")
        self.paper = _copied(paper)


class PaperError(WeirError):
    """A paper that does not hold against its net."""


class NoPlan(PaperError):
    """A plan's rows that do not fit, with their first fault."""

    def __init__(self, fault):
        PaperError.__init__(self, "no plan")
        self.fault = _copied(fault)


class BadSet(PaperError):
    """A set paper that is none."""

    def __init__(self):
        PaperError.__init__(self, "bad set")


class BadRing(PaperError):
    """A ring paper that is none."""

    def __init__(self):
        PaperError.__init__(self, "bad ring")


class HouseError(WeirError):
    """Something that a house does not grant."""


class NoNet(HouseError):
    """A net that the house does not have."""

    def __init__(self, name):
        HouseError.__init__(self, "no net")
        self.name = name


class NoMark(HouseError):
    """A mark that the house does not have."""

    def __init__(self, name):
        HouseError.__init__(self, "no mark")
        self.name = name


class NothingThere(HouseError):
    """Nothing to be taken back or done again: the way is `undo` or `redo`."""

    def __init__(self, way):
        HouseError.__init__(self, "nothing there")
        self.way = way
