"""A desk: a house of nets that is asked and edited by lines of text."""

from dialweir.errors import BadRow, BadWord, WeirError
from dialweir.fracs import read_frac, shown
from dialweir.house import House
from dialweir.rowing import exactly, row_number, row_words

DONE = "ok"


class Desk:
    """A house of its own, at first empty, and all answers so far."""

    def __init__(self):
        # How many lines are being done.
        self.depth = 0
        self._house = House()
        self._answers = []

    def say(self, line):
        """The line's answer, when it is done."""
        self.depth += 1
        try:
            answer = _answer(self._house, line)
        finally:
            self.depth -= 1
        self._answers.append(answer)
        return answer

    def log(self):
        return list(self._answers)


def _answer(house, line):
    try:
        return _do_line(house, row_words(line))
    # The house itself refuses nothing with BadWord: only a line that is not written as told is refused so.
    except BadWord:
        return "refused form"
    except BadRow as fault:
        return f"refused {fault.word}: {fault.why}"
    except WeirError as refusal:
        return f"refused {refusal.word}"


# Each of the doers below reads all of its words ahead of the deed: a line's form is looked at first.


def _begin(house, words):
    name, *numbers = exactly(6, words)
    hours, s_low, s_high, t_low, t_high = [row_number(word) for word in numbers]
    house.begin(name, f"hours {hours}\ns {s_low} {s_high}\nt {t_low} {t_high}")
    return DONE


def _do(house, words):
    if len(words) < 2:
        raise BadWord(" ".join(words))
    house.edit(words[0], [" ".join(words[1:])])
    return DONE


def _twin(house, words):
    name, other = exactly(2, words)
    house.twin(name, other)
    return DONE


def _drop(house, words):
    house.drop(exactly(1, words)[0])
    return DONE


def _mark(house, words):
    house.mark(exactly(1, words)[0])
    return DONE


def _back(house, words):
    house.back(exactly(1, words)[0])
    return DONE


def _undo(house, words):
    exactly(0, words)
    house.undo()
    return DONE


def _redo(house, words):
    exactly(0, words)
    house.redo()
    return DONE


def _worth(house, words):
    name, s_word, t_word = exactly(3, words)
    worth = house.worth(name, read_frac(s_word), read_frac(t_word))
    return f"worth {shown(worth)}"


def _reach(house, words):
    return _span_line("reach", house.span_of(exactly(1, words)[0]))


def _bottom(house, words):
    return _span_line("bottom", house.bottom_of(exactly(1, words)[0]))


def _span_line(word, span):
    if span is None:
        return f"{word} none"
    return f"{word} {shown(span.low)} {shown(span.high)}"


def _names(house, words):
    exactly(0, words)
    return " ".join(["names"] + house.names())


def _page(house, words):
    exactly(0, words)
    return house.page()


LINES = {
    "begin": _begin,
    "do": _do,
    "twin": _twin,
    "drop": _drop,
    "mark": _mark,
    "back": _back,
    "undo": _undo,
    "redo": _redo,
    "worth": _worth,
    "reach": _reach,
    "bottom": _bottom,
    "names": _names,
    "page": _page,
}


def _do_line(house, words):
    """What is answered to the words of a line."""
    kind = words[0]
    if kind not in LINES:
        raise BadWord(kind)
    doer = LINES[kind]
    return doer(house, words[1:])
