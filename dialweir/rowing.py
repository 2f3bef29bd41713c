"""The rows of a net's text: one row done on a net as its deed, and the text of a net as it stands."""

from dialweir.errors import BadRow, BadWord, WeirError
from dialweir.figures import read_whole
from dialweir.moves import MOST_FIGURES, read_move, written

FORM = "form"
ENDLESS = "open"


def do_row(net, line, *, plain=False):
    """One row done on the net; nothing is changed where it is refused."""
    try:
        _do_words(net, row_words(line), plain)
    # A word that writes nothing is a fault of the row's form: no deed refuses with BadWord.
    except BadWord:
        raise BadRow(1, FORM) from None
    except WeirError as refusal:
        raise BadRow(1, refusal.word) from None


def do_rows(net, lines, first, *, plain=False):
    """Rows done one by one, numbered from the first one's number; those ahead of a refused one stay done."""
    for number, line in enumerate(lines, start=first):
        try:
            do_row(net, line, plain=plain)
        except BadRow as refusal:
            raise BadRow(number, refusal.why) from None


def row_words(line):
    """The words of one row; BadWord where one is without signs, or where the line is not one row alone."""
    words = line.split(" ")
    if "" in words or "\n" in line:
        raise BadWord(line)
    return words


def row_number(word):
    """The whole number that the word writes."""
    number = read_whole(word, MOST_FIGURES)
    if number is None:
        raise BadWord(word)
    return number


def exactly(count, words):
    """The words, where they are as many as that."""
    if len(words) != count:
        raise BadWord(" ".join(words))
    return words


def text_of(net):
    """The net's text."""
    return "\n".join(_net_rows(net))


# Each of the readers below reads all of its words ahead of the deed: a row's form is looked at whole first.


def _read_room(word):
    if word == ENDLESS:
        return None
    return read_move(word, "s")


def _read_rung(word):
    room, _, price = word.partition(":")
    return (_read_room(room), read_move(price, "t"))


def _do_place(net, words):
    net.place(exactly(1, words)[0])


def _do_through(net, words):
    name, room = exactly(2, words)
    net.through(name, _read_room(room))


def _do_store(net, words):
    name, room, price = exactly(3, words)
    net.store(name, _read_room(room), read_move(price, "t"))


def _do_want(net, words):
    name, hour, move = exactly(3, words)
    net.want(name, row_number(hour), read_move(move, "s"))


def _do_road(net, words):
    name, start, end, takes, floor = exactly(5, words[:5])
    rungs = tuple([_read_rung(word) for word in words[5:]])
    # The text writes no road without rungs, so that this is a fault of form and not one of the deed.
    if len(rungs) == 0:
        raise BadWord(name)
    net.road(name, start, end, takes=row_number(takes), floor=read_move(floor, "s"), rungs=rungs)


def _do_strike(net, words):
    net.strike(exactly(1, words)[0])


def _do_box(net, words):
    dial, low, high = exactly(3, words)
    box = (row_number(low), row_number(high))
    if dial == "s":
        net.box(s=box)
    elif dial == "t":
        net.box(t=box)
    else:
        raise BadWord(dial)


PLAIN_ROWS = {"place": _do_place, "through": _do_through, "store": _do_store, "want": _do_want, "road": _do_road}
OTHER_ROWS = {"strike": _do_strike, "box": _do_box}


def _do_words(net, words, plain):
    """The deed of a row's words; strikes and boxes are no rows where it is to be plain."""
    kind = words[0]
    if kind in PLAIN_ROWS:
        deed = PLAIN_ROWS[kind]
    elif kind in OTHER_ROWS and not plain:
        deed = OTHER_ROWS[kind]
    else:
        raise BadWord(kind)
    deed(net, words[1:])


def _net_rows(net):
    """The rows of the net's text: the hours and the box, then the places, then the roads."""
    s_low, s_high = net.s_box
    t_low, t_high = net.t_box
    rows = [f"hours {net.hours}", f"s {s_low} {s_high}", f"t {t_low} {t_high}"]
    for name in net.place_names():
        rows.extend(_place_rows(name, net.place_told(name)))
    for name in net.road_names():
        rows.append(_road_row(name, net.road_told(name)))
    return rows


def _place_rows(name, told):
    """The rows of a place: what a new place has anyway is left out."""
    passage, room, price, wants = told
    rows = [f"place {name}"]
    if passage is not None:
        rows.append(f"through {name} {_room_word(passage)}")
    if room != (0, 0):
        rows.append(f"store {name} {_room_word(room)} {written(price, 't')}")
    for hour, want in enumerate(wants, start=1):
        if want != (0, 0):
            rows.append(f"want {name} {hour} {written(want, 's')}")
    return rows


def _road_row(name, told):
    start, end, takes, floor, rungs = told
    words = ["road", name, start, end, str(takes), written(floor, "s")]
    words.extend([f"{_room_word(room)}:{written(price, 't')}" for room, price in rungs])
    return " ".join(words)


def _room_word(room):
    if room is None:
        return ENDLESS
    return written(room, "s")
