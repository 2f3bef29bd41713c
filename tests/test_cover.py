"""Oblongs: all settings of both stretches are covered, and each oblong holds against its net."""

import random
import unittest

from atlas_case import AtlasCase
from common import valley
from dialweir.atlas import Atlas, Oblong
from dialweir.fracs import Span, frac
from dialweir.net import MOST_ARCS, Net
from made_nets import made_net, plain_count, settings
from papers import works

MILLION = 1000000


def all_looks(oblongs):
    return [(repr(one), one.loads, one.prices, one.four) for one in oblongs]


class CoverCase(AtlasCase):
    def assert_atlas(self, net, *, looked_at=10 ** 9, exact=True):
        """The stretches and the oblongs hold; how many oblongs there are."""
        atlas = Atlas(net)
        self.assert_reach(net, atlas.reach())
        self.assert_bottom(net, atlas.bottom())
        s_span, t_span = atlas.reach()[0], atlas.bottom()[0]
        oblongs = atlas.told()
        self.assertEqual(len(atlas), len(oblongs))
        self.assertEqual({type(one) for one in oblongs}, {Oblong} if oblongs else set())
        if s_span is None or t_span is None:
            self.assertEqual(oblongs, [])
            return 0
        chance = random.Random(len(oblongs))
        for one in oblongs if len(oblongs) <= looked_at else chance.sample(oblongs, looked_at):
            self.assert_oblong(net, one, s_span, t_span)
        if exact:
            self.assert_covered(oblongs, s_span, t_span)
        for s in settings(chance, s_span.low, s_span.high, 6):
            for t in settings(chance, t_span.low, t_span.high, 6):
                held = [one for one in oblongs if one.holds(s, t)]
                self.assertTrue(held, (s, t))
                worth = atlas.worth(s, t)
                for one in held:
                    self.assertEqual(one.worth_at(s, t), worth)
        return len(oblongs)


class HandTest(CoverCase):
    def test_works(self):
        self.assert_atlas(works())
        told = Atlas(works()).told()
        # Up to s = 1 the first rung of the way to the sea is enough.
        self.assertEqual({one.s_span.low for one in told} | {one.s_span.high for one in told}, {(0, 1), (1, 1), (4, 1)})
        for one in told:
            self.assertEqual(one.t_span, Span((0, 1), (4, 1)))
            self.assertEqual(one.four, (11, 3, 9, 2) if one.s_span.high == (1, 1) else (8, 6, 9, 2))

    def test_nothing(self):
        net = Net(s_box=(-2, 3), t_box=(1, 5))
        self.assertEqual(self.assert_atlas(net), 1)
        self.assertEqual(Atlas(net).told(), [Oblong(Span((-2, 1), (3, 1)), Span((1, 1), (5, 1)), [], [], (0, 0, 0, 0))])

    def test_none_where_a_stretch_is_missing(self):
        self.assertEqual(self.assert_atlas(valley()), 0)
        net = Net()
        net.place("a")
        net.road("r", "a", "a", rungs=((None, (-1, 0)),))
        self.assertEqual(self.assert_atlas(net), 0)
        net.want("a", 1, (1, 0))
        self.assertEqual(self.assert_atlas(net), 0)
        self.assertEqual((Atlas(net).told(), len(Atlas(net))), ([], 0))

    def test_single_settings(self):
        net = Net(s_box=(-9, 9), t_box=(-9, 9))
        net.place("a")
        net.place("b")
        net.want("a", 1, (-5, 0))
        net.want("b", 1, (3, 4))
        net.road("r", "a", "b", rungs=(((3, 0), (1, 1)), (None, (12, 2))))
        net.road("q", "a", "b", rungs=(((4, 0), (5, -1)),))
        self.assertGreater(self.assert_atlas(net), 1)
        self.assertEqual({repr(one)[:15] for one in Atlas(net).told()}, {"Oblong(1/2..1/2"})
        net.road("back", "b", "a", rungs=((None, (-12, -2)),))
        self.assertGreater(self.assert_atlas(net), 0)
        net.road("more", "a", "b", rungs=((None, (7, 5)),))
        self.assertGreater(self.assert_atlas(net), 0)
        self.assertEqual(Atlas(net).bottom()[0], Span((5, 3), (9, 1)))
        net.road("less", "a", "b", rungs=((None, (17, -1)),))
        self.assertEqual(self.assert_atlas(net), 1)
        self.assertEqual(repr(Atlas(net).told()[0]), "Oblong(1/2..1/2, 5/3..5/3)")

    def test_new_ones_at_each_asking(self):
        net = works()
        atlas = Atlas(net)
        first = atlas.told()
        kept = all_looks(atlas.told())
        count = len(atlas)
        for one in first:
            one.loads.clear()
            one.prices.append(("x", 1, "door", 0, 0))
            one.s_span.high = (9, 1)
            one.four = None
        first.clear()
        self.assertEqual(all_looks(atlas.told()), kept)
        self.assertEqual((len(atlas), all_looks(Atlas(net).told())), (count, kept))
        self.assertFalse(any(one is other for one, other in zip(atlas.told(), atlas.told())))

    def test_the_net_stays(self):
        net = works()
        atlas = Atlas(net)
        atlas.told()
        atlas.worth((1, 2), (1, 2))
        self.assertEqual(str(net), str(works()))


def wide(seed):
    """A net in the greatest box, with wants, rooms and prices up to a million that move over it."""
    chance = random.Random(seed)
    net = Net(hours=1 + seed % 2, s_box=(-MILLION, MILLION), t_box=(-MILLION, MILLION))
    names = ["a", "b", "c", "d"]
    for name in names:
        net.place(name)
    for number in range(8):
        start, end = names[number % 4], names[(number + 1 + number // 4) % 4]
        price = (chance.randint(-MILLION, MILLION), chance.choice((0, 1, -1, 7, chance.randint(-MILLION, MILLION))))
        dearer = (min(MILLION, price[0] + chance.randint(0, MILLION)), price[1])
        rooms = [chance.choice(((MILLION, 1), (MILLION, -1), (chance.randint(0, MILLION), 0))) for _ in range(2)]
        last = None if chance.random() < 0.4 else rooms[1]
        net.road(f"r{number}", start, end, takes=chance.choice((0, 0, 1)), rungs=((rooms[0], price), (last, dearer)))
    net.store("a", (MILLION, -1), (3, -1))
    net.through("b", (MILLION, chance.choice((1, -1))))
    wants = {spot: (0, 0) for spot in net.spots()}
    for _ in range(3):
        (start, end), hour = chance.sample(names, 2), chance.randint(1, net.hours)
        base, step = chance.randint(0, MILLION // 4), chance.choice((0, 1, -1, 2, 9, -333))
        for spot, sign in (((start, hour), -1), ((end, hour), 1)):
            wants[spot] = (wants[spot][0] + sign * base, wants[spot][1] + sign * step)
    for (place, hour), want in wants.items():
        net.want(place, hour, want)
    return net


class MadeTest(CoverCase):
    def test_small_nets(self):
        most = 0
        for seed in range(120):
            shape = {"hours": 1 + seed % 3, "places": 1 + seed % 5, "roads": seed % 9, "below": seed % 4 == 0}
            most = max(most, self.assert_atlas(made_net(seed, top=2 + seed % 9, cheap=2 + seed % 7, **shape)))
        self.assertGreater(most, 10)

    def test_boxes_of_one_setting(self):
        for seed in range(24):
            boxes = {"s": ((2, 2), (-3, 3))[seed % 2], "t": ((1, 1), (-1, -1), (0, 3))[seed % 3]}
            self.assert_atlas(made_net(seed, hours=2, places=4, roads=8, **boxes))

    def test_six_hours_with_stores_and_slow_roads(self):
        for seed in range(8):
            net = made_net(seed, hours=6, places=5, roads=8, stores=0.9, passages=0.2, top=30, cheap=20)
            self.assert_atlas(net, looked_at=80, exact=False)

    def test_many_alike(self):
        for seed in range(12):
            net = made_net(seed, hours=3, places=6, roads=14, top=1, cheap=1, s=(0, 2), t=(0, 2))
            self.assert_atlas(net, looked_at=60, exact=False)

    def test_great_boxes(self):
        counts = [self.assert_atlas(wide(seed), looked_at=60, exact=False) for seed in range(40)]
        self.assertGreater(sum(count > 3 for count in counts), 15, counts)

    def test_great_numbers_that_move_far(self):
        for seed in range(8):
            net = made_net(seed, hours=2, places=4, roads=8, s=(-9, 9), t=(-9, 9), top=90000, cheap=90000, below=True,
                           endless=0.1)
            self.assert_atlas(net, looked_at=60, exact=False)


def ladders(seed, *, hours, places, roads, rungs, box):
    """A net with just as many plain arcs as may be, whose roads all run."""
    chance = random.Random(seed)
    net = Net(hours=hours, s_box=(-box, box), t_box=(-box, box))
    names = [f"p{number}" for number in range(places)]
    for name in names:
        net.place(name)
    wants = {spot: [0, 0] for spot in net.spots()}
    for number in range(roads):
        start, end = chance.sample(names, 2)
        told = []
        base, step = chance.randint(0, 9999), chance.randint(-900, 900)
        for _ in range(rungs):
            room_step = chance.randint(-90, 90)
            told.append(((chance.randint(0, 999) + abs(room_step) * box, room_step), (base, step)))
            rise = chance.randint(-40, 40)
            base, step = base + chance.randint(1, 999) + abs(rise) * box, step + rise
        net.road(f"r{number}", start, end, rungs=tuple(told))
        for hour in range(1, hours + 1):
            for (room, room_step), _ in told:
                by = chance.choice((1, 2, 3, 4))
                for place, sign in ((start, -1), (end, 1)):
                    wants[place, hour][0] += sign * (room // by)
                    wants[place, hour][1] += sign * (room_step // by)
    for (place, hour), (base, step) in wants.items():
        net.want(place, hour, (base, step))
    return net


class LargeTest(CoverCase):
    def test_just_as_many_arcs_as_may_be(self):
        for seed, shape in enumerate((
            {"hours": 1, "places": 8, "roads": 24, "rungs": 4, "box": 10},
            {"hours": 2, "places": 6, "roads": 12, "rungs": 4, "box": 5},
            {"hours": 4, "places": 12, "roads": 24, "rungs": 1, "box": 20},
            {"hours": 6, "places": 3, "roads": 4, "rungs": 4, "box": 10},
        )):
            net = ladders(seed, **shape)
            self.assertEqual(plain_count(net), MOST_ARCS)
            count = self.assert_atlas(net, looked_at=100, exact=False)
            self.assertGreater(count, 50)

    def test_twelve_places_six_hours(self):
        for seed in range(4):
            net = made_net(seed, hours=6, places=12, roads=24, top=50, cheap=30, passages=0.1)
            self.assert_atlas(net, looked_at=60, exact=False)
            self.assertLessEqual(plain_count(net), MOST_ARCS)
        self.assertEqual(frac(4, 6), (2, 3))


if __name__ == "__main__":
    unittest.main()
