"""Worths and plans at single settings, their refusals, and atlases that stand by themselves."""

import random
import unittest

from atlas_case import AtlasCase
from common import valley
from dialweir.atlas import Atlas
from dialweir.errors import Barred, NoBottom, Outside
from dialweir.fracs import before, frac
from dialweir.looker import cost, ring_price, set_lack
from dialweir.moves import value
from dialweir.net import Net
from made_nets import made_net, runs_of, settings, whole_cost, whole_plans
from papers import works

NOUGHT = (0, 1)


def plan_rows(plan, s):
    """Rows that are worth the told loads at s: the loads have no other unders than s has."""
    rows = []
    for name, hour, (top, under) in plan:
        top, under = top * (s[1] // under), s[1]
        step = next(step for step in range(under) if (top - step * s[0]) % under == 0)
        rows.append((name, hour, (top - step * s[0]) // under, step))
    return rows


class WorthCase(AtlasCase):
    def assert_plan(self, net, atlas, s, t):
        """The plan fits and costs the worth, which is told."""
        plan = atlas.plan(s, t)
        self.assertIs(type(plan), list)
        self.assertEqual([row[:2] for row in plan], net.parts())
        for row in plan:
            self.assertEqual((type(row), len(row), type(row[2])), (tuple, 3, tuple))
            self.assertEqual(frac(*row[2]), row[2])
            # Whole loads at a whole s.
            self.assertEqual(s[1] % row[2][1], 0)
        worth = atlas.worth(s, t)
        self.assertEqual(frac(*worth), worth)
        self.assertEqual(cost(net, plan_rows(plan, s), s, t), worth)
        kept = list(plan)
        plan.clear()
        self.assertEqual(atlas.plan(s, t), kept)
        return worth


class HandTest(WorthCase):
    def test_works(self):
        net = works()
        atlas = Atlas(net)
        for s, t, worth in (((0, 1), (0, 1), (11, 1)), ((1, 1), (1, 1), (25, 1)), ((4, 1), (0, 1), (32, 1)),
                            ((1, 2), (1, 2), (35, 2))):
            self.assertEqual(self.assert_plan(net, atlas, s, t), worth)
        self.assertEqual(atlas.plan((1, 2), (1, 1)), [
            ("up", 1, (13, 2)), ("up", 2, (1, 1)), ("down", 1, (4, 1)), ("down", 2, (7, 2)), ("mill", 1, (5, 2)),
        ])

    def test_nothing(self):
        atlas = Atlas(Net(s_box=(0, 3), t_box=(0, 3)))
        self.assertEqual((atlas.worth((1, 2), (3, 1)), atlas.plan((1, 2), (3, 1))), ((0, 1), []))

    def test_floors_alone(self):
        net = Net(s_box=(0, 3), t_box=(0, 3))
        net.place("a")
        net.road("r", "a", "a", floor=(2, 1), rungs=(((5, 0), (3, 1)),))
        atlas = Atlas(net)
        self.assertEqual(atlas.worth((1, 2), (1, 3)), (25, 3))
        self.assertEqual(atlas.plan((1, 1), (0, 1)), [("r", 1, (3, 1))])
        # A ring that earns is run as far as its room goes.
        net.change("r", rungs=(((5, 0), (-1, 0)),))
        self.assertEqual(Atlas(net).plan((1, 1), (0, 1)), [("r", 1, (8, 1))])
        self.assertEqual(Atlas(net).worth((1, 1), (0, 1)), (-8, 1))


class RefusalTest(WorthCase):
    def asks(self, atlas):
        return (atlas.worth, atlas.plan, atlas.slopes)

    def assert_outside(self, ask, s, t, dial, at):
        with self.assertRaises(Outside) as caught:
            ask(s, t)
        self.assertEqual((caught.exception.dial, caught.exception.at, caught.exception.word), (dial, at, "outside"))

    def test_outside(self):
        # Ahead of all else: valley() has no plan at all, the other net no bottom either.
        net = valley()
        net.road("fall", "sea", "sea", rungs=((None, (-99, 0)),))
        for told in (works(), valley(), net):
            told.box(s=(0, 4), t=(-1, 2))
            for ask in self.asks(Atlas(told)):
                self.assert_outside(ask, (5, 1), (0, 1), "s", (5, 1))
                self.assert_outside(ask, (-1, 100), (0, 1), "s", (-1, 100))
                self.assert_outside(ask, (401, 100), (9, 1), "s", (401, 100))
                self.assert_outside(ask, (4, 1), (9, 1), "t", (9, 1))
                self.assert_outside(ask, (0, 1), (-101, 100), "t", (-101, 100))

    def test_at_the_ends_of_the_box(self):
        net = works()
        for s in ((0, 1), (4, 1)):
            for t in ((0, 1), (4, 1)):
                self.assert_plan(net, Atlas(net), s, t)

    def assert_barred(self, net, ask, *at):
        with self.assertRaises(Barred) as caught:
            ask(*at)
        self.assertEqual(caught.exception.word, "barred")
        self.assertTrue(before(NOUGHT, value(set_lack(net, caught.exception.paper), at[0])))
        caught.exception.paper[1].clear()

    def assert_no_bottom(self, net, ask, *at):
        with self.assertRaises(NoBottom) as caught:
            ask(*at)
        self.assertEqual(caught.exception.word, "no bottom")
        self.assertTrue(before(value(ring_price(net, caught.exception.paper), at[1]), NOUGHT))
        caught.exception.paper.clear()

    def test_barred_and_no_bottom(self):
        net = Net(s_box=(-9, 9), t_box=(-9, 9))
        net.place("a")
        net.place("b")
        net.want("a", 1, (-5, -1))
        net.want("b", 1, (5, 1))
        net.road("r", "a", "b", rungs=(((8, 0), (1, 1)),))
        net.road("x", "b", "b", rungs=((None, (4, -1)),))
        net.road("y", "b", "b", rungs=((None, (6, 2)),))
        atlas = Atlas(net)
        # From s = -5 to 3 and from t = -3 to 4.
        for ask in self.asks(atlas):
            for _ in range(2):
                for s in ((-9, 1), (-51, 10), (301, 100), (9, 1)):
                    self.assert_barred(net, ask, s, (0, 1))
                    self.assert_barred(net, ask, s, (9, 1))
                for t in ((-9, 1), (-301, 100), (401, 100), (9, 1)):
                    self.assert_no_bottom(net, ask, (0, 1), t)
        for s in ((-5, 1), (1, 3), (3, 1)):
            for t in ((-3, 1), (1, 3), (4, 1)):
                self.assert_plan(net, atlas, s, t)

    def test_no_plan_and_no_bottom_anywhere(self):
        net = Net(s_box=(-9, 9), t_box=(-9, 9))
        net.place("a")
        net.place("b")
        net.want("a", 1, (-5, 0))
        net.want("b", 1, (3, 1))
        net.road("r", "a", "b", rungs=(((4, 0), (1, 1)),))
        for s in ((-9, 1), (1, 1), (2, 1), (5, 2), (9, 1)):
            for ask in self.asks(Atlas(net)):
                self.assert_barred(net, ask, s, (0, 1))
        net.change("r", rungs=(((5, 0), (1, 1)),))
        net.road("x", "b", "b", rungs=((None, (4, -2)),))
        net.road("y", "b", "b", rungs=((None, (-6, 2)),))
        for t in ((-9, 1), (2, 1), (5, 2), (3, 1), (9, 1)):
            for ask in self.asks(Atlas(net)):
                self.assert_no_bottom(net, ask, (2, 1), t)
                self.assert_barred(net, ask, (3, 1), t)

    def test_made_nets(self):
        refused = 0
        for seed in range(40):
            net = made_net(seed, hours=1 + seed % 2, places=3, roads=7, below=True, top=5)
            place = net.place_names()[0]
            base, step = net.place_told(place)[3][0]
            net.want(place, 1, (base - 1, step + 1))
            atlas = Atlas(net)
            s_span, t_span = atlas.reach()[0], atlas.bottom()[0]
            chance = random.Random(seed)
            for s in settings(chance, (-3, 1), (3, 1), 3):
                for t in settings(chance, (-2, 1), (4, 1), 3):
                    for ask in self.asks(atlas):
                        if s_span is None or not s_span.holds(s):
                            self.assert_barred(net, ask, s, t)
                            refused += 1
                        elif t_span is None or not t_span.holds(t):
                            self.assert_no_bottom(net, ask, s, t)
                            refused += 1
        self.assertGreater(refused, 100)


class MadeTest(WorthCase):
    def test_all_whole_loads_of_small_nets(self):
        """No whole loads cost less, gone through one by one, and some cost just as much."""
        tried = 0
        for seed in range(90):
            net = made_net(seed, hours=1 + seed % 2, places=2 + seed % 2, roads=3, top=2, cheap=5, endless=0.1,
                           below=seed % 3 == 0, passages=0.4)
            atlas = Atlas(net)
            if len(net.parts()) > 5 or atlas.reach()[0] is None or atlas.bottom()[0] is None:
                continue
            for s in (-3, -1, 2):
                if not atlas.reach()[0].holds((s, 1)):
                    self.assertEqual(list(whole_plans(net, s, 4)), [])
                    continue
                plans = list(whole_plans(net, s, 4))
                for t in (-2, 0, 3):
                    if atlas.bottom()[0].holds((t, 1)):
                        worth = self.assert_plan(net, atlas, (s, 1), (t, 1))
                        self.assertLessEqual(worth[0], min(whole_cost(net, plan, s, t) for plan in plans))
                        plan = [load[0] for _, _, load in atlas.plan((s, 1), (t, 1))]
                        self.assertEqual(whole_cost(net, plan, s, t), worth[0])
                        if max(plan, default=0) <= 4:
                            self.assertIn(plan, plans)
                tried += len(plans)
        self.assertGreater(tried, 400)

    def test_never_dearer_than_loads_from_which_nets_were_made(self):
        held = 0
        for seed in range(60):
            chance = random.Random(seed)
            net = made_net(seed, hours=1 + seed % 4, places=4, roads=9, passages=0, below=seed % 2 == 0, endless=0.2)
            # Loads anew, and the wants that they meet.
            rows = []
            wants = {spot: (0, 0) for spot in net.spots()}
            for name, hour, start, end, floor, rungs in runs_of(net):
                load = floor
                for room, _ in rungs:
                    more = room if room is not None and chance.random() < 0.5 else (0, 0)
                    load = (load[0] + more[0], load[1] + more[1])
                rows.append((name, hour, *load))
                for spot, sign in ((start, -1), (end, 1)):
                    wants[spot] = (wants[spot][0] + sign * load[0], wants[spot][1] + sign * load[1])
            for (place, hour), want in wants.items():
                net.want(place, hour, want)
            atlas = Atlas(net)
            self.assertEqual(atlas.reach()[1:], (None, None))
            if atlas.bottom()[0] is None:
                continue
            for s in settings(chance, (-3, 1), (3, 1), 3):
                for t in settings(chance, atlas.bottom()[0].low, atlas.bottom()[0].high, 3):
                    worth = self.assert_plan(net, atlas, s, t)
                    self.assertFalse(before(cost(net, rows, s, t), worth))
                    held += 1
        self.assertGreater(held, 300)

    def test_plans_of_nets(self):
        for seed in range(40):
            net = made_net(seed, hours=1 + seed % 6, places=5, roads=10, below=seed % 4 == 0)
            atlas = Atlas(net)
            if atlas.told():
                chance = random.Random(seed)
                for s in settings(chance, atlas.reach()[0].low, atlas.reach()[0].high, 3):
                    for t in settings(chance, atlas.bottom()[0].low, atlas.bottom()[0].high, 2):
                        self.assert_plan(net, atlas, s, t)


class AskedAgainTest(WorthCase):
    def all_told(self, atlas, s, t):
        oblongs = [(repr(one), one.loads, one.prices, one.four) for one in atlas.told()]
        return [atlas.plan(s, t), atlas.along_s(t), atlas.along_t(s), oblongs, *atlas.reach()[1:], *atlas.bottom()[1:],
                atlas.worth(s, t), atlas.slopes(s, t), len(atlas)]

    def test_behind_other_askings_and_changes(self):
        for seed in range(25):
            net = made_net(seed, hours=2, places=4, roads=8)
            atlas = Atlas(net)
            if not atlas.told():
                continue
            s, t = atlas.reach()[0].middle(), atlas.bottom()[0].middle()
            kept = self.all_told(atlas, s, t)
            told = self.all_told(atlas, s, t)
            for part in told[:4]:
                part.clear()
            for one in settings(random.Random(seed), atlas.reach()[0].low, atlas.reach()[0].high, 3):
                self.all_told(atlas, one, atlas.bottom()[0].low)
            self.assertEqual(self.all_told(atlas, s, t), kept)
            # One that is asked for a worth alone, and in another order.
            other = Atlas(net)
            self.assertEqual(other.worth(s, t), atlas.worth(s, t))
            self.assertEqual(self.all_told(other, s, t), kept)

    def test_deeds_on_the_net(self):
        for seed in range(25):
            net = made_net(seed, hours=2, places=4, roads=8)
            atlas, late = Atlas(net), Atlas(net)
            if not atlas.told():
                continue
            s, t = atlas.reach()[0].middle(), atlas.bottom()[0].middle()
            kept = self.all_told(atlas, s, t)
            net.want("p0", 1, (999, 0))
            net.through("p1", (0, 0))
            for name in net.road_names():
                net.strike(name)
            net.box(s=(0, 1), t=(0, 1))
            net.store("p2", None, (-5, 0))
            self.assertEqual(self.all_told(atlas, s, t), kept)
            # Also where nothing had been asked ahead of the deeds.
            self.assertEqual(self.all_told(late, s, t), kept)
            self.assertIsNone(Atlas(net).reach()[0])


if __name__ == "__main__":
    unittest.main()
