"""Lowered nets: the four steps at once, too many plain arcs, and what is led back."""

import copy
import unittest

from common import valley
from dialweir.errors import TooGreat
from dialweir.lower import Lowered, doored, laid, sunk, unrolled
from dialweir.net import MOST_ARCS, Net
from made_nets import made_net, plain_count


def four_steps(net):
    nodes, wants, arcs = doored(*unrolled(net))
    return (nodes, *sunk(wants, laid(arcs)))


def fields(lowered):
    return (lowered.nodes, lowered.needs, lowered.arcs, lowered.fixed)


def ladder(hours, *counts):
    """A net with roads of so many rungs."""
    net = Net(hours=hours)
    net.place("a")
    net.place("b")
    for number, count in enumerate(counts):
        net.road(f"r{number}", "a", "b", rungs=(((1, 0), (1, 0)),) * count)
    return net


def pair():
    """Two places, one with passages; a road with a floor and three rungs, one of one rung, and a store."""
    net = Net(hours=2, s_box=(0, 3), t_box=(0, 3))
    net.place("a")
    net.place("b")
    net.through("b", (9, 0))
    net.store("a", (4, 1), (2, 0))
    net.road("up", "a", "b", floor=(2, 1), rungs=(((3, 0), (1, 0)), ((2, 1), (2, 0)), (None, (3, 1))))
    net.road("down", "b", "a", takes=1, rungs=((None, (0, 1)),))
    return net


# Of pair(): the nodes are a1, a2, b1's door and hall, b2's door and hall; the plain arcs are three of ("up", 1),
# three of ("up", 2), one of ("down", 1), one of ("a", 1), then the passages of b1 and b2.
NODES = [("a", 1, "both"), ("a", 2, "both"), ("b", 1, "door"), ("b", 1, "hall"), ("b", 2, "door"), ("b", 2, "hall")]


class FieldsTest(unittest.TestCase):
    def test_valley(self):
        lowered = Lowered(valley())
        # The floors of east and west are taken as run.
        self.assertEqual(lowered.needs, [
            (-5, -1), (1, 0), (1, 0), (-1, 0), (0, 1), (-1, 0), (2, 1), (-1, 0), (1, 1), (0, 0), (0, -1), (0, -1),
        ])
        self.assertEqual(lowered.fixed, (3, 0, 0, -2))
        self.assertEqual(len(lowered.arcs), 3 * 3 + 2 + 4 + 3)
        self.assertEqual(lowered.arcs[:3], [(0, 3, (4, 0), (1, 0)), (0, 3, (6, -1), (3, 1)), (0, 3, None, (9, 0))])
        self.assertEqual(lowered.arcs[-1], (7, 8, (20, -2), (0, 0)))

    def test_all_steps(self):
        for seed in range(40):
            net = made_net(seed, hours=1 + seed % 4)
            self.assertEqual(fields(Lowered(net)), four_steps(net))

    def test_nothing(self):
        self.assertEqual(fields(Lowered(Net())), ([], [], [], (0, 0, 0, 0)))

    def test_deeds_on_the_net(self):
        net = pair()
        lowered = Lowered(net)
        kept = copy.deepcopy(fields(lowered))
        net.rows(["through b open", "want a 1 7", "strike up", "place c", "store a 0 0", "box s 1 2", "box t 1 2"])
        self.assertEqual(fields(lowered), kept)
        told = lowered.up_plan([(1, 1)] * 10)
        self.assertEqual([row[:2] for row in told], [("up", 1), ("up", 2), ("down", 1), ("a", 1)])
        self.assertEqual(len(lowered.up_prices([(0, 0)] * 6)), 8)
        self.assertEqual(lowered.up_set("in", [5]), ("in", [("b", 2, "hall")]))
        self.assertEqual(lowered.up_ring([2, 6]), [("up", 1), ("down", 1)])

    def test_the_net_stays(self):
        net = pair()
        lowered = Lowered(net)
        for told in fields(lowered)[:3]:
            told.clear()
        self.assertEqual(net, pair())
        self.assertEqual(fields(Lowered(net)), four_steps(pair()))
        # What leads back does not go by lists that their holder may change.
        self.assertEqual(lowered.up_set("in", [0]), ("in", [("a", 1, "door"), ("a", 1, "hall")]))
        self.assertEqual(lowered.up_ring([0, 6]), [("up", 1), ("down", 1)])


class TooGreatTest(unittest.TestCase):
    def assert_too_great(self, net, number):
        with self.assertRaises(TooGreat) as caught:
            Lowered(net)
        self.assertEqual((caught.exception.number, caught.exception.word), (number, "too great"))

    def test_just_as_many(self):
        net = ladder(1, *[4] * 24)
        self.assertEqual(len(Lowered(net).arcs), MOST_ARCS)
        net.through("a", (1, 0))
        self.assert_too_great(net, MOST_ARCS + 1)

    def test_of_each_kind(self):
        net = ladder(6, 4, 4, 4, 3)
        self.assertEqual(len(Lowered(net).arcs), 90)
        net.through("a", (0, 0))
        self.assertEqual(len(Lowered(net).arcs), 96)
        with_store = net.twin()
        with_store.store("a", (0, 1))
        self.assert_too_great(with_store, 101)
        net.road("slow", "a", "b", takes=6)
        self.assertEqual(len(Lowered(net).arcs), 96)
        net.road("late", "a", "b", takes=5)
        self.assert_too_great(net, 97)

    def test_far_too_great(self):
        net = ladder(6, *[4] * 24)
        for place in ("a", "b"):
            net.through(place, (1, 0))
            net.store(place, None)
        self.assert_too_great(net, 6 * 4 * 24 + 2 * 6 + 2 * 5)

    def test_counted_by_looks(self):
        for seed in range(40):
            net = made_net(seed, hours=1 + seed % 6, places=9, roads=16, most=300)
            count = plain_count(net)
            if count > MOST_ARCS:
                self.assert_too_great(net, count)
            else:
                self.assertEqual(len(Lowered(net).arcs), count)


class UpPlanTest(unittest.TestCase):
    def test_floors_and_rungs(self):
        lowered = Lowered(pair())
        loads = [(3, 0), (2, 1), (4, -1), (1, 1), (0, 0), (0, 0), (5, 2), (4, 1), (100, 100), (200, 200)]
        kept = list(loads)
        told = lowered.up_plan(loads)
        expected = [("up", 1, 11, 1), ("up", 2, 3, 2), ("down", 1, 5, 2), ("a", 1, 4, 1)]
        self.assertEqual(told, expected)
        told.clear()
        self.assertEqual(lowered.up_plan(loads), expected)
        self.assertEqual(loads, kept)

    def test_nothing(self):
        self.assertEqual(Lowered(Net()).up_plan([]), [])


class UpPricesTest(unittest.TestCase):
    def test_doors_and_halls(self):
        lowered = Lowered(pair())
        heights = [(1, 2), (3, 4), (5, 6), (7, 8), (9, 10), (11, 12)]
        kept = list(heights)
        told = lowered.up_prices(heights)
        expected = [
            ("a", 1, "door", 1, 2), ("a", 1, "hall", 1, 2), ("a", 2, "door", 3, 4), ("a", 2, "hall", 3, 4),
            ("b", 1, "door", 5, 6), ("b", 1, "hall", 7, 8), ("b", 2, "door", 9, 10), ("b", 2, "hall", 11, 12),
        ]
        self.assertEqual(told, expected)
        told.clear()
        self.assertEqual(lowered.up_prices(heights), expected)
        self.assertEqual(heights, kept)


class UpSetTest(unittest.TestCase):
    def test_in_any_order(self):
        lowered = Lowered(pair())
        numbers = [5, 0, 2]
        told = lowered.up_set("in", numbers)
        expected = ("in", [("a", 1, "door"), ("a", 1, "hall"), ("b", 1, "door"), ("b", 2, "hall")])
        self.assertEqual(told, expected)
        self.assertIs(type(told), tuple)
        told[1].clear()
        self.assertEqual(lowered.up_set("in", numbers), expected)
        self.assertEqual(numbers, [5, 0, 2])
        self.assertEqual(lowered.up_set("in", [2, 5, 0]), expected)

    def test_none_and_all(self):
        lowered = Lowered(pair())
        self.assertEqual(lowered.up_set("out", []), ("out", []))
        places = [(place, hour, part) for place, hour in pair().spots() for part in ("door", "hall")]
        self.assertEqual(lowered.up_set("out", [3, 2, 1, 0, 4, 5]), ("out", places))
        self.assertEqual([node[2] for node in NODES], [node[2] for node in lowered.nodes])


class UpRingTest(unittest.TestCase):
    def test_in_the_lists_order(self):
        lowered = Lowered(pair())
        numbers = [6, 3, 9, 2, 6, 8, 0, 2]
        told = lowered.up_ring(numbers)
        expected = [("down", 1), ("up", 2), ("up", 1), ("down", 1), ("up", 1), ("up", 1)]
        self.assertEqual(told, expected)
        told.clear()
        self.assertEqual(lowered.up_ring(numbers), expected)
        self.assertEqual(numbers, [6, 3, 9, 2, 6, 8, 0, 2])

    def test_none(self):
        self.assertEqual(Lowered(pair()).up_ring([]), [])
        self.assertEqual(Lowered(pair()).up_ring([8, 9]), [])


if __name__ == "__main__":
    unittest.main()
