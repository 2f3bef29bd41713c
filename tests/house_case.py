"""What the tests of houses share: texts of nets, and all that a house tells of itself."""

import unittest

from dialweir.errors import NothingThere, WeirError

EMPTY = "hours 1\ns 0 0\nt 0 0"
# A spring that gives 3+1s, a road with two rungs, and a mill that wants it.
RIVER = """hours 2
s 0 4
t -1 2
place spring
want spring 1 -3-1s
place mill
want mill 2 3+1s
road east spring mill 1 0 4:1 open:2+1t"""
# No plan but at s = 1/2, and no bottom above t = 1.
NARROW = """hours 1
s 0 1
t 0 2
place a
want a 1 -1
place b
want b 1 0+2s
road r a b 0 0 open:1
road q b a 0 0 open:0-1t"""
# Four roads of four rungs at six hours, and passages: more plain arcs than may be.
GREAT = "\n".join(["hours 6", "s 0 0", "t 0 0", "place a", "through a 1"] + [
    f"road r{number} a a 0 0 1:0 1:0 1:0 1:0" for number in range(4)])
NAMES = ("a", "z9", "abcdefgh")
BAD_NAMES = ("", "A", "1a", "abcdefghi", "a b", "a-b", "a\n", " a", "_")


def looks(house):
    """What a house tells of itself without being changed."""
    names = house.names()
    return (names, [house.text(name) for name in names], house.page(), len(house), house.limit)


def walked(house):
    """What can be taken back and done again, told by walking there and returning."""
    told = []
    for there, back in ((house.undo, house.redo), (house.redo, house.undo)):
        steps = 0
        while True:
            try:
                there()
            except NothingThere:
                break
            steps += 1
            told.append(looks(house))
        for _ in range(steps):
            back()
    return told


class HouseCase(unittest.TestCase):
    def assert_refused(self, house, expected, deed, *handed):
        """Refused with just this, and all is as it was: the nets, what can be taken back, what can be done again."""
        kept = (looks(house), walked(house))
        with self.assertRaises(WeirError) as caught:
            deed(*handed)
        self.assertIs(type(caught.exception), type(expected))
        self.assertEqual(vars(caught.exception), vars(expected))
        self.assertEqual((looks(house), walked(house)), kept)
