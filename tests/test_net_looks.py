"""Parts, spots and the looks at one place or one road."""

import unittest

from common import NetCase, full_net, valley
from dialweir.errors import NoPlace, NoRoad
from dialweir.net import Net


class PartsTest(unittest.TestCase):
    def test_by_hand(self):
        # `loop` takes three of three hours, so that nothing sets out on it.
        self.assertEqual(valley().parts(), [
            ("east", 1), ("east", 2), ("east", 3), ("west", 1), ("west", 2),
            ("spring", 1), ("spring", 2), ("sea", 1), ("sea", 2),
        ])

    def test_hours_at_which_a_road_sets_out(self):
        for hours in range(1, 7):
            net = Net(hours=hours)
            net.place("a")
            for takes in range(10):
                net.road(f"r{takes}", "a", "a", takes=takes)
            told = [(f"r{takes}", hour) for takes in range(10) for hour in range(1, hours + 1) if hour + takes <= hours]
            self.assertEqual(net.parts(), told)

    def test_stores_at_each_hour_but_the_last(self):
        for hours in range(1, 7):
            net = Net(hours=hours)
            for name in ("a", "b", "c"):
                net.place(name)
            net.store("c", None)
            net.store("a", (5, 0))
            self.assertEqual(net.parts(), [(name, hour) for name in ("a", "c") for hour in range(1, hours)])

    def test_roads_are_told_ahead_of_stores(self):
        net = Net(hours=2)
        net.place("a")
        net.store("a", None)
        net.road("z", "a", "a")
        net.road("b", "a", "a")
        self.assertEqual(net.parts(), [("z", 1), ("z", 2), ("b", 1), ("b", 2), ("a", 1)])

    def test_behind_deeds(self):
        net = valley()
        net.change("east", takes=2)
        net.store("mill", (1, 0))
        net.store("spring")
        self.assertEqual(net.parts(), [
            ("east", 1), ("west", 1), ("west", 2), ("mill", 1), ("mill", 2), ("sea", 1), ("sea", 2),
        ])
        net.change("loop", takes=2)
        net.strike("west")
        self.assertEqual(net.parts(), [("east", 1), ("loop", 1), ("mill", 1), ("mill", 2), ("sea", 1), ("sea", 2)])
        net.strike("east")
        net.strike("mill")
        self.assertEqual(net.parts(), [("loop", 1), ("sea", 1), ("sea", 2)])


class SpotsTest(unittest.TestCase):
    def test_by_hand(self):
        self.assertEqual(valley().spots(), [
            ("spring", 1), ("spring", 2), ("spring", 3), ("mill", 1), ("mill", 2), ("mill", 3),
            ("sea", 1), ("sea", 2), ("sea", 3),
        ])

    def test_of_all_hours(self):
        for hours in range(1, 7):
            net = Net(hours=hours)
            net.place("z")
            net.place("a")
            self.assertEqual(net.spots(), [(name, hour) for name in ("z", "a") for hour in range(1, hours + 1)])

    def test_behind_deeds(self):
        net = valley()
        net.strike("east")
        net.strike("spring")
        net.place("spring")
        net.store("mill", None)
        net.through("sea", (4, 0))
        self.assertEqual(net.spots(), [(name, hour) for name in ("mill", "sea", "spring") for hour in (1, 2, 3)])


class ListsTest(unittest.TestCase):
    def test_asked_twice_with_the_first_changed_between(self):
        net = valley()
        for ask in (net.parts, net.spots, net.place_names, net.road_names):
            first = ask()
            kept = list(first)
            self.assertIs(type(first), list)
            first.reverse()
            first.append("more")
            self.assertEqual(ask(), kept)
            ask().clear()
            self.assertEqual(ask(), kept)
        self.assertEqual(net, valley())

    def test_order(self):
        net = full_net()
        self.assertEqual(net.place_names(), [f"p{number}" for number in range(12)])
        self.assertEqual(net.road_names(), [f"r{number}" for number in range(24)])
        net = Net()
        for name in ("z", "a", "m"):
            net.place(name)
        self.assertEqual(net.place_names(), ["z", "a", "m"])


class ToldTest(NetCase):
    def test_places(self):
        net = valley()
        self.assertEqual(net.place_told("spring"), (None, (5, 1), (0, 1), ((-6, -1), (0, 0), (0, 0))))
        self.assertEqual(net.place_told("mill"), ((20, -2), (0, 0), (0, 0), ((0, 0), (2, 0), (1, 1))))
        self.assertEqual(net.place_told("sea"), (None, None, (3, 0), ((0, 0), (0, 0), (0, 0))))
        self.assertEqual([type(net.place_told("sea")), type(net.place_told("sea")[3])], [tuple, tuple])

    def test_roads(self):
        net = valley()
        self.assertEqual(net.road_told("loop"), ("sea", "sea", 3, (0, 0), ((None, (0, 0)),)))
        self.assertEqual(net.road_told("west"), ("mill", "sea", 1, (0, 1), (((8, 2), (0, -1)),)))
        self.assertEqual([type(net.road_told("west")), type(net.road_told("west")[4])], [tuple, tuple])

    def test_strangers(self):
        net = valley()
        for name in ("hill", "", "Mill", "east", "loop"):
            self.assert_refused(NoPlace(name), lambda: net.place_told(name), net)
        for name in ("hill", "", "East", "spring", "sea"):
            self.assert_refused(NoRoad(name), lambda: net.road_told(name), net)


if __name__ == "__main__":
    unittest.main()
