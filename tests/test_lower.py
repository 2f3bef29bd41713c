"""Nets led down: unrolled, doored, laid and sunk, each told by hand and held against nets made from numbers."""

import copy
import unittest

from common import valley
from dialweir.lower import doored, laid, sunk, unrolled
from dialweir.net import Net
from made_nets import made_net, runs_of

EAST = (((4, 0), (1, 0)), ((6, -1), (3, 1)), (None, (9, 0)))
WEST = (((8, 2), (0, -1)),)
SPOTS = [(place, hour) for place in ("spring", "mill", "sea") for hour in (1, 2, 3)]
WANTS = [(-6, -1), (0, 0), (0, 0), (0, 0), (2, 0), (1, 1), (0, 0), (0, 0), (0, 0)]
ROOMS = [None, None, None, (20, -2), (20, -2), (20, -2), None, None, None]
PARTS = [
    ("east", 1, 0, 3, (1, 0), EAST), ("east", 2, 1, 4, (1, 0), EAST), ("east", 3, 2, 5, (1, 0), EAST),
    ("west", 1, 3, 7, (0, 1), WEST), ("west", 2, 4, 8, (0, 1), WEST),
    ("spring", 1, 0, 1, (0, 0), (((5, 1), (0, 1)),)), ("spring", 2, 1, 2, (0, 0), (((5, 1), (0, 1)),)),
    ("sea", 1, 6, 7, (0, 0), ((None, (3, 0)),)), ("sea", 2, 7, 8, (0, 0), ((None, (3, 0)),)),
]


def changed(told):
    """All lists that are told, emptied."""
    for part in told:
        if isinstance(part, list):
            part.clear()


class UnrolledTest(unittest.TestCase):
    def test_valley(self):
        self.assertEqual(unrolled(valley()), (SPOTS, WANTS, ROOMS, PARTS))

    def test_kinds(self):
        told = unrolled(valley())
        self.assertIs(type(told), tuple)
        self.assertEqual([type(part) for part in told], [list] * 4)
        self.assertEqual({type(arc) for arc in told[3]}, {tuple})

    def test_hours_that_roads_take(self):
        net = Net(hours=4)
        net.place("b")
        net.place("a")
        net.road("z", "a", "b", takes=2)
        net.road("late", "a", "b", takes=4)
        net.road("latest", "b", "a", takes=9)
        net.road("self", "a", "a")
        net.road("last", "a", "a", takes=3)
        spots, wants, rooms, arcs = unrolled(net)
        self.assertEqual(spots, [("b", 1), ("b", 2), ("b", 3), ("b", 4), ("a", 1), ("a", 2), ("a", 3), ("a", 4)])
        self.assertEqual((wants, rooms), ([(0, 0)] * 8, [None] * 8))
        self.assertEqual([arc[:4] for arc in arcs], [
            ("z", 1, 4, 2), ("z", 2, 5, 3), ("self", 1, 4, 4), ("self", 2, 5, 5), ("self", 3, 6, 6), ("self", 4, 7, 7),
            ("last", 1, 4, 7),
        ])
        self.assertEqual({arc[4:] for arc in arcs}, {((0, 0), ((None, (0, 0)),))})

    def test_one_hour(self):
        net = Net()
        net.place("a")
        net.place("b")
        net.store("a", (3, 0), (1, 0))
        net.road("r", "a", "b", takes=1)
        net.road("q", "b", "a", floor=(2, 0))
        self.assertEqual(unrolled(net)[3], [("q", 1, 1, 0, (2, 0), ((None, (0, 0)),))])

    def test_nothing(self):
        self.assertEqual(unrolled(Net(hours=6)), ([], [], [], []))

    def test_in_the_order_of_the_looks(self):
        for seed in range(30):
            net = made_net(seed, hours=1 + seed % 5, stores=0.7)
            spots, wants, rooms, arcs = unrolled(net)
            self.assertEqual(spots, net.spots())
            self.assertEqual([arc[:2] for arc in arcs], net.parts())
            self.assertEqual(wants, [net.place_told(place)[3][hour - 1] for place, hour in spots])
            self.assertEqual(rooms, [net.place_told(place)[0] for place, _ in spots])
            told = [(name, hour, spots[tail], spots[head], *rest) for name, hour, tail, head, *rest in arcs]
            self.assertEqual(told, runs_of(net))

    def test_asked_again(self):
        net = valley()
        told = unrolled(net)
        kept = copy.deepcopy(told)
        changed(told)
        self.assertEqual(unrolled(net), kept)
        self.assertEqual(str(net), str(valley()))
        told = unrolled(net)
        net.rows(["want sea 3 5", "through sea 3", "strike loop", "strike west", "place hill", "store spring 0 0"])
        self.assertEqual(told, kept)
        self.assertNotEqual(unrolled(net), kept)


class DooredTest(unittest.TestCase):
    def test_valley(self):
        nodes, wants, arcs = doored(*unrolled(valley()))
        self.assertEqual(nodes, [
            ("spring", 1, "both"), ("spring", 2, "both"), ("spring", 3, "both"), ("mill", 1, "door"),
            ("mill", 1, "hall"), ("mill", 2, "door"), ("mill", 2, "hall"), ("mill", 3, "door"), ("mill", 3, "hall"),
            ("sea", 1, "both"), ("sea", 2, "both"), ("sea", 3, "both"),
        ])
        none = (0, 0)
        self.assertEqual(wants, [(-6, -1), none, none, none, none, none, (2, 0), none, (1, 1), none, none, none])
        ends = [(0, 3), (1, 5), (2, 7), (4, 10), (6, 11), (0, 1), (1, 2), (9, 10), (10, 11)]
        led = [part[:2] + pair + part[4:] for part, pair in zip(PARTS, ends)]
        passages = [("", hour, door, door + 1, none, (((20, -2), none),)) for hour, door in ((1, 3), (2, 5), (3, 7))]
        self.assertEqual(arcs, led + passages)

    def test_none_with_an_end(self):
        spots = [("a", 1), ("b", 1)]
        arcs = [("r", 1, 0, 1, (2, 1), EAST), ("q", 1, 1, 1, (0, 0), WEST)]
        told = doored(spots, [(-1, 0), (1, 0)], [None, None], arcs)
        self.assertEqual(told, ([("a", 1, "both"), ("b", 1, "both")], [(-1, 0), (1, 0)], arcs))

    def test_all_with_an_end(self):
        spots = [("a", 1), ("b", 1)]
        arcs = [("r", 1, 0, 1, (2, 1), EAST), ("q", 1, 1, 1, (0, 0), WEST)]
        nodes, wants, led = doored(spots, [(-1, 0), (1, 2)], [(7, 1), (0, 0)], arcs)
        self.assertEqual(nodes, [("a", 1, "door"), ("a", 1, "hall"), ("b", 1, "door"), ("b", 1, "hall")])
        self.assertEqual(wants, [(0, 0), (-1, 0), (0, 0), (1, 2)])
        self.assertEqual(led, [
            ("r", 1, 1, 2, (2, 1), EAST), ("q", 1, 3, 2, (0, 0), WEST), ("", 1, 0, 1, (0, 0), (((7, 1), (0, 0)),)),
            ("", 1, 2, 3, (0, 0), (((0, 0), (0, 0)),)),
        ])

    def test_nothing(self):
        self.assertEqual(doored([], [], [], []), ([], [], []))

    def test_what_was_handed_in_stays(self):
        for rooms in ([None] * 9, list(ROOMS), [(3, 0)] * 9):
            handed = (list(SPOTS), list(WANTS), rooms, list(PARTS))
            kept = copy.deepcopy(handed)
            told = doored(*handed)
            for part in told:
                self.assertFalse(any(part is one for one in handed))
            changed(told)
            self.assertEqual(handed, kept)
            again = doored(*handed)
            changed(handed)
            self.assertEqual(again, doored(*kept))


class LaidTest(unittest.TestCase):
    def test_rungs(self):
        two = (((1, 2), (3, 4)), ((5, 0), (6, 7)))
        four = (((1, 0), (1, 0)), ((2, 0), (2, 0)), ((3, 0), (3, 0)), (None, (4, 5)))
        arcs = [("r", 2, 0, 1, (9, 1), two), ("a", 1, 1, 0, (0, 0), WEST), ("", 3, 2, 2, (8, 0), four)]
        self.assertEqual(laid(arcs), [
            ("r", 2, 1, 0, 1, (9, 1), (1, 2), (3, 4)), ("r", 2, 2, 0, 1, (0, 0), (5, 0), (6, 7)),
            ("a", 1, 1, 1, 0, (0, 0), (8, 2), (0, -1)),
            ("", 3, 1, 2, 2, (8, 0), (1, 0), (1, 0)), ("", 3, 2, 2, 2, (0, 0), (2, 0), (2, 0)),
            ("", 3, 3, 2, 2, (0, 0), (3, 0), (3, 0)), ("", 3, 4, 2, 2, (0, 0), None, (4, 5)),
        ])

    def test_a_floor_beside_a_rung_without_end(self):
        self.assertEqual(laid([("r", 1, 0, 1, (3, -1), ((None, (2, 0)),))]), [("r", 1, 1, 0, 1, (3, -1), None, (2, 0))])

    def test_what_was_handed_in_stays(self):
        arcs = list(PARTS)
        told = laid(arcs)
        kept = list(told)
        told.clear()
        self.assertEqual(arcs, PARTS)
        self.assertEqual(laid(arcs), kept)
        self.assertEqual(laid([]), [])


class SunkTest(unittest.TestCase):
    def test_needs_and_costs(self):
        rows = [
            ("r", 1, 1, 0, 1, (3, 2), (5, 0), (7, -1)), ("r", 1, 2, 0, 1, (0, 0), None, (9, 9)),
            ("q", 1, 1, 1, 2, (1, -1), (4, 1), (-2, 5)), ("o", 1, 1, 2, 2, (10, 10), (1, 1), (1, 1)),
        ]
        needs, plain, fixed = sunk([(-4, 0), (0, 1), (4, -1)], rows)
        self.assertEqual(needs, [(-1, 2), (-2, -2), (3, 0)])
        self.assertEqual(plain, [(0, 1, (5, 0), (7, -1)), (0, 1, None, (9, 9)), (1, 2, (4, 1), (-2, 5)),
                                 (2, 2, (1, 1), (1, 1))])
        # (3+2s)(7-t) + (1-s)(-2+5t) + (10+10s)(1+t)
        self.assertEqual(fixed, (21 - 2 + 10, 14 + 2 + 10, -3 + 5 + 10, -2 - 5 + 10))

    def test_without_floors(self):
        rows = [("r", 1, 1, 0, 1, (0, 0), (5, 0), (7, -1))]
        self.assertEqual(sunk([(-4, 0), (4, 0)], rows), ([(-4, 0), (4, 0)], [(0, 1, (5, 0), (7, -1))], (0, 0, 0, 0)))
        self.assertEqual(sunk([], []), ([], [], (0, 0, 0, 0)))

    def test_what_was_handed_in_stays(self):
        _, wants, arcs = doored(*unrolled(valley()))
        rows = laid(arcs)
        kept = (list(wants), list(rows))
        told = sunk(wants, rows)
        again = copy.deepcopy(told)
        self.assertIsNot(told[0], wants)
        changed(told)
        self.assertEqual((wants, rows), kept)
        self.assertEqual(sunk(wants, rows), again)


if __name__ == "__main__":
    unittest.main()
