"""What the tests of nets share: a net with something of each kind, and refusals that change nothing."""

import itertools
import unittest

from dialweir.net import Net

# The text of valley(), by hand.
VALLEY = """hours 3
s 0 4
t -2 2
place spring
store spring 5+1s 0+1t
want spring 1 -6-1s
place mill
through mill 20-2s
want mill 2 2
want mill 3 1+1s
place sea
store sea open 3
road east spring mill 0 1 4:1 6-1s:3+1t open:9
road west mill sea 1 0+1s 8+2s:0-1t
road loop sea sea 3 0 open:0"""


def valley():
    net = Net(hours=3, s_box=(0, 4), t_box=(-2, 2))
    net.place("spring")
    net.place("mill")
    net.place("sea")
    net.want("spring", 1, (-6, -1))
    net.want("mill", 2, (2, 0))
    net.want("mill", 3, (1, 1))
    net.through("mill", (20, -2))
    net.store("spring", (5, 1), (0, 1))
    net.store("sea", None, (3, 0))
    net.road("east", "spring", "mill", floor=(1, 0), rungs=(((4, 0), (1, 0)), ((6, -1), (3, 1)), (None, (9, 0))))
    net.road("west", "mill", "sea", takes=1, floor=(0, 1), rungs=(((8, 2), (0, -1)),))
    net.road("loop", "sea", "sea", takes=3)
    return net


def full_net():
    """A net with as many places and as many roads as there may be."""
    net = Net()
    for number in range(12):
        net.place(f"p{number}")
    for number in range(24):
        net.road(f"r{number}", "p0", "p1")
    return net


def looks(net):
    """All that a net tells of itself."""
    return {
        "text": str(net), "repr": repr(net), "len": len(net), "hours": net.hours, "boxes": (net.s_box, net.t_box),
        "places": [(name, net.place_told(name)) for name in net.place_names()],
        "roads": [(name, net.road_told(name)) for name in net.road_names()],
        "parts": net.parts(), "spots": net.spots(),
    }


class NetCase(unittest.TestCase):
    def assert_refused(self, expected, action, *nets):
        """The action is refused with just this refusal, and the nets are as they were."""
        before = [looks(net) for net in nets]
        with self.assertRaises(type(expected)) as caught:
            action()
        self.assertIs(type(caught.exception), type(expected))
        self.assertEqual(vars(caught.exception), vars(expected))
        self.assertEqual([looks(net) for net in nets], before)

    def assert_order(self, make, deed, good, faults):
        """Each fault, a dict of arguments and its refusal, is met; of two that go together the first one told."""
        net = make()
        getattr(net, deed)(**good)
        for wrong, expected in faults:
            with self.subTest(deed=deed, wrong=wrong):
                net = make()
                self.assert_refused(expected, lambda: getattr(net, deed)(**{**good, **wrong}), net)
        for (wrong, expected), (other, _) in itertools.combinations(faults, 2):
            if not set(wrong) & set(other):
                with self.subTest(deed=deed, wrong=wrong, other=other):
                    net = make()
                    self.assert_refused(expected, lambda: getattr(net, deed)(**{**good, **wrong, **other}), net)
