"""Set papers and ring papers held against their net."""

import itertools
import random
import unittest

from dialweir.errors import BadRing, BadSet
from dialweir.looker import ring_price, set_lack
from dialweir.net import Net
from made_nets import made_net, runs_of
from papers import works

DOOR, HALL = "door", "hall"


def all_places(net):
    return [(place, hour, part) for place, hour in net.spots() for part in (DOOR, HALL)]


def both(*spots):
    return [(place, hour, part) for place, hour in spots for part in (DOOR, HALL)]


def told_lack(net, side, places):
    """Point [12], word by word."""
    held = set(places)
    sign = 1 if side == "in" else -1
    base, step = 0, 0
    for place, hour in net.spots():
        if (place, hour, HALL) in held:
            want = net.place_told(place)[3][hour - 1]
            base, step = base + sign * want[0], step + sign * want[1]
    for _, _, start, end, floor, rungs in runs_of(net):
        leaves = (*start, HALL) in held and (*end, DOOR) not in held
        enters = (*start, HALL) not in held and (*end, DOOR) in held
        if leaves if side == "in" else enters:
            base, step = base + floor[0], step + floor[1]
        if enters if side == "in" else leaves:
            for room in [floor] + [room for room, _ in rungs]:
                if room is None:
                    return None
                base, step = base - room[0], step - room[1]
    for place, hour in net.spots():
        room = net.place_told(place)[0]
        door, hall = (place, hour, DOOR) in held, (place, hour, HALL) in held
        if (hall and not door) if side == "in" else (door and not hall):
            if room is None:
                return None
            base, step = base - room[0], step - room[1]
    return (base, step)


class SetTest(unittest.TestCase):
    def assert_lack(self, side, places, lack, net=None):
        net = works() if net is None else net
        paper = (side, list(places))
        text = str(net)
        self.assertEqual(set_lack(net, paper), lack)
        self.assertEqual((paper, str(net)), ((side, places), text))
        self.assertEqual(lack, told_lack(net, side, places))

    def test_none_and_all(self):
        net = works()
        for side in ("in", "out"):
            self.assert_lack(side, [], (0, 0))
            self.assert_lack(side, all_places(net), (0, 0))
        net.want("sea", 1, (9, 3))
        self.assert_lack("in", all_places(net), (5, 3), net)
        self.assert_lack("out", all_places(net), (-5, -3), net)
        self.assert_lack("in", [], (0, 0), Net())

    def test_wants(self):
        # What the spring gives, and the floors of the road that leaves it.
        self.assert_lack("in", both(("spring", 1)), (-6 + 1, -1))
        self.assert_lack("in", both(("spring", 1), ("spring", 2)), (-7 + 2, -1))
        # To the sea leads a road without end.
        self.assert_lack("in", both(("sea", 1)), None)
        net = works()
        net.change("down", floor=(0, 1), rungs=(((2, 0), (0, 0)), ((1, 3), (0, 0))))
        self.assert_lack("in", both(("sea", 1)), (4 - 3, -1 - 3), net)
        self.assert_lack("in", both(("sea", 1), ("sea", 2)), (7 - 6, 1 - 8), net)
        self.assert_lack("out", both(("sea", 2)), (-3, -1 + 1), net)

    def test_rooms_and_floors_of_parts(self):
        # ("up", 1) has the floor 1 and the rooms 3 and 2+1s.
        self.assert_lack("out", both(("spring", 1)), (6 - 6, 1 - 1))
        self.assert_lack("out", [("spring", 1, HALL)], (0, 0))
        self.assert_lack("in", [("mill", 1, DOOR)], (-6, -1))
        # For `out` the floors of parts that enter count, and the passage that leaves.
        self.assert_lack("out", [("mill", 1, DOOR)], (1 - 6, -1))

    def test_halls_alone(self):
        # The passage leads in; of the parts that leave none has a floor.
        self.assert_lack("in", [("mill", 1, HALL)], (-6, -1))
        self.assert_lack("in", [("mill", 2, HALL)], (-6, -1))
        self.assert_lack("out", [("mill", 1, HALL)], None)
        net = works()
        net.change("down", floor=(2, 0))
        self.assert_lack("in", [("mill", 1, HALL)], (-4, -1), net)

    def test_stores(self):
        # To the door of the second hour lead ("up", 2) and the store.
        self.assert_lack("in", [("mill", 2, DOOR)], (-6 - 5, -1 - 1))
        net = works()
        net.store("mill", None)
        self.assert_lack("in", [("mill", 2, DOOR)], None, net)
        self.assert_lack("in", both(("mill", 1), ("mill", 2), ("sea", 1), ("sea", 2)), (7 - 12, 1 - 2), net)
        self.assert_lack("out", [("mill", 2, DOOR)], (1 - 6, -1), net)
        net.store("mill", (0, 0))
        self.assert_lack("in", [("mill", 2, DOOR)], (-6, -1), net)

    def test_passages_without_end(self):
        self.assert_lack("in", [("sea", 1, HALL)], None)
        self.assert_lack("out", [("sea", 1, DOOR)], None)
        # Where only what they could bring out is without end, they are no matter.
        self.assert_lack("out", [("sea", 1, HALL)], (-4, 0))
        self.assert_lack("in", [("spring", 1, DOOR)], (0, 0))

    def test_parts_without_end(self):
        self.assert_lack("out", both(("mill", 1)), None)
        self.assert_lack("in", [("sea", 1, DOOR)], None)
        self.assert_lack("out", [("sea", 2, HALL)], (-3, -1))
        # Nothing is taken away where such a part stays within the set.
        self.assert_lack("in", both(("mill", 1), ("mill", 2), ("sea", 1), ("sea", 2)), (7 - 12, 1 - 2))

    def test_a_road_from_a_place_to_itself(self):
        net = Net()
        net.place("a")
        net.through("a", (5, 0))
        net.road("r", "a", "a", floor=(1, 0), rungs=(((2, 0), (0, 0)),))
        self.assert_lack("in", [("a", 1, DOOR)], (-3, 0), net)
        self.assert_lack("in", [("a", 1, HALL)], (1 - 5, 0), net)
        self.assert_lack("out", [("a", 1, DOOR)], (1 - 5, 0), net)
        self.assert_lack("out", [("a", 1, HALL)], (-3, 0), net)
        self.assert_lack("in", both(("a", 1)), (0, 0), net)

    def test_all_sets_of_small_nets(self):
        kinds = set()
        for seed in range(12):
            net = made_net(seed, hours=1, places=3, roads=5, passages=0.7)
            for size in range(7):
                for places in itertools.combinations(all_places(net), size):
                    for side in ("in", "out"):
                        lack = told_lack(net, side, list(places))
                        self.assert_lack(side, list(places), lack, net)
                        kinds.add(lack is None)
        self.assertEqual(kinds, {True, False})

    def test_sets_of_nets(self):
        for seed in range(30):
            net = made_net(seed, hours=3)
            chance = random.Random(seed)
            for _ in range(10):
                places = [place for place in all_places(net) if chance.random() < 0.5]
                for side in ("in", "out"):
                    self.assert_lack(side, places, told_lack(net, side, places), net)


class BadSetTest(unittest.TestCase):
    def assert_bad(self, side, places):
        with self.assertRaises(BadSet) as caught:
            set_lack(works(), (side, places))
        self.assertEqual(caught.exception.word, "bad set")

    def test_other_sides(self):
        for side in ("", "IN", "inside", "door", "into"):
            self.assert_bad(side, [])
            self.assert_bad(side, both(("sea", 1)))

    def test_places(self):
        for places in (
            [("sea", 1, DOOR)] * 2, both(("sea", 1), ("sea", 1)), [("sea", 1, HALL), ("sea", 1, DOOR)],
            both(("sea", 2), ("sea", 1)), both(("mill", 1), ("spring", 1)), both(("mill", 2), ("sea", 1), ("mill", 1)),
            both(("lake", 1)), both(("up", 1)), both(("sea", 0)), both(("sea", 3)), both(("sea", -1)),
            [("sea", 1, "both")], [("sea", 1, "")], [("", 1, DOOR)], both(("sea", 1)) + [("lake", 1, HALL)],
        ):
            for side in ("in", "out"):
                self.assert_bad(side, places)


def rings():
    """Two hours of a triangle of roads without end, one of which takes an hour, and of others."""
    net = Net(hours=2, t_box=(-5, 5))
    for place in ("a", "b", "c", "d"):
        net.place(place)
    net.store("a", None, (7, 0))
    net.through("d", (5, 0))
    net.road("ab", "a", "b", rungs=(((4, 0), (-9, 0)), (None, (1, 2))))
    net.road("bc", "b", "c", floor=(3, 0), rungs=((None, (3, -1)),))
    net.road("ca", "c", "a", rungs=((None, (-2, 0)),))
    net.road("ac", "a", "c", rungs=(((4, 0), (1, 0)),))
    net.road("late", "c", "a", takes=1)
    net.road("self", "b", "b", rungs=((None, (0, 4)),))
    net.road("ad", "a", "d")
    net.road("da", "d", "a", rungs=((None, (5, 0)),))
    return net


class RingTest(unittest.TestCase):
    def assert_price(self, ring, price):
        net = rings()
        kept = list(ring)
        text = str(net)
        self.assertEqual(ring_price(net, ring), price)
        self.assertEqual((ring, str(net)), (kept, text))

    def test_of_one_part(self):
        self.assert_price([("self", 1)], (0, 4))
        self.assert_price([("self", 2)] * 3, (0, 12))

    def test_of_several_parts(self):
        ring = [("ab", 1), ("bc", 1), ("ca", 1)]
        for _ in range(3):
            self.assert_price(ring, (1 + 3 - 2, 2 - 1))
            ring = ring[1:] + ring[:1]
        self.assert_price([("ab", 2), ("bc", 2), ("ca", 2)], (2, 1))

    def test_a_part_twice(self):
        self.assert_price([("ab", 1), ("self", 1), ("bc", 1), ("ca", 1), ("ab", 1), ("bc", 1), ("ca", 1)], (4, 6))

    def assert_bad(self, ring, net=None):
        net = rings() if net is None else net
        with self.assertRaises(BadRing) as caught:
            ring_price(net, ring)
        self.assertEqual(caught.exception.word, "bad ring")

    def test_bad_ones(self):
        for ring in (
            [], [("no", 1)], [("ab", 3)], [("ab", 0)], [("a", 1)], [("late", 2)], [("self", 1), ("no", 1)],
            # Parts that do not meet, a ring that does not close.
            [("ab", 1)], [("ab", 1), ("ca", 1)], [("ab", 1), ("bc", 1)], [("bc", 1), ("ab", 1), ("ca", 1)],
            [("ab", 1), ("bc", 2), ("ca", 1)], [("self", 1), ("self", 2)], [("ab", 1), ("bc", 1), ("ca", 1), ("ab", 1)],
            # Hours that do not come back, a store, a last rung with an end, a spot whose passage has an end.
            [("ab", 1), ("bc", 1), ("late", 1)], [("late", 1), ("a", 1)], [("ac", 1), ("ca", 1)],
            [("ad", 1), ("da", 1)], [("da", 1), ("ad", 1)],
        ):
            self.assert_bad(ring)

    def test_a_passage_that_gets_an_end(self):
        net = rings()
        net.through("d")
        self.assertEqual(ring_price(net, [("ad", 2), ("da", 2)]), (5, 0))
        net.through("a", (1000000, 0))
        self.assert_bad([("ad", 2), ("da", 2)], net)


if __name__ == "__main__":
    unittest.main()
