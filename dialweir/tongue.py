"""The reader of a net's text."""

from dialweir.errors import BadRow, BadWord, NetError
from dialweir.net import Net
from dialweir.rowing import FORM, do_rows, row_number, row_words

HEADS = 3


def read_net(text):
    """The net that the text tells."""
    rows = text.split("\n")
    net = _begun(rows)
    do_rows(net, rows[HEADS:], HEADS + 1, plain=True)
    return net


def _begun(rows):
    """The empty net of the first three rows, each of them done ahead of a look at the next one."""
    # A row that is lacking is refused like one without signs.
    heads = rows[:HEADS] + [""] * HEADS
    number = 1
    try:
        net = Net(hours=_head_numbers(heads[0], "hours", 1)[0])
        number = 2
        net.box(s=tuple(_head_numbers(heads[1], "s", 2)))
        number = 3
        net.box(t=tuple(_head_numbers(heads[2], "t", 2)))
    except BadWord:
        raise BadRow(number, FORM) from None
    except NetError as refusal:
        raise BadRow(number, refusal.word) from None
    return net


def _head_numbers(row, kind, count):
    """The whole numbers of a head row of that kind."""
    word, *others = row_words(row)
    if word != kind or len(others) != count:
        raise BadWord(row)
    return [row_number(other) for other in others]
