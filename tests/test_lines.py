"""Worths along one dial, and slopes."""

import random
import unittest

from atlas_case import AtlasCase, rate
from common import valley
from dialweir.atlas import Atlas
from dialweir.errors import Barred, NoBottom, Outside
from dialweir.fracs import before, frac
from dialweir.looker import ring_price, set_lack
from dialweir.moves import value
from dialweir.net import Net
from made_nets import made_net, settings
from papers import works

NOUGHT = (0, 1)


def stair():
    """A road whose rungs fill one by one, beside one that is cheaper from t = 4 on."""
    net = Net(s_box=(0, 9), t_box=(0, 9))
    net.place("a")
    net.place("b")
    net.want("a", 1, (0, -1))
    net.want("b", 1, (0, 1))
    net.road("r", "a", "b", rungs=(((2, 0), (1, 0)), ((0, 0), (2, 0)), ((2, 0), (3, 0)), ((3, 0), (3, 0))))
    net.road("q", "a", "b", rungs=((None, (12, -2)),))
    return net


class LineCase(AtlasCase):
    def assert_lines(self, net, atlas, settings_of_s, settings_of_t):
        """The lines along both dials hold; how many bends they have."""
        bends = 0
        s_span, t_span = atlas.reach()[0], atlas.bottom()[0]
        for t in settings_of_t:
            points = atlas.along_s(t)
            self.assert_line(points, s_span, lambda s: atlas.worth(s, t), 1)
            self.assert_slopes(atlas, points, t)
            bends += max(0, len(points) - 2)
            kept = list(points)
            points.clear()
            self.assertEqual(atlas.along_s(t), kept)
        for s in settings_of_s:
            points = atlas.along_t(s)
            self.assert_line(points, t_span, lambda t: atlas.worth(s, t), -1)
            bends += max(0, len(points) - 2)
            kept = list(points)
            points.clear()
            self.assertEqual(atlas.along_t(s), kept)
        return bends

    def assert_slopes(self, atlas, points, t):
        """At each point the rates of the lines beside it, between two points that of the line."""
        rates = [None] + [rate(one, other) for one, other in zip(points, points[1:])] + [None]
        for number, (s, _) in enumerate(points):
            self.assertEqual(atlas.slopes(s, t), (rates[number], rates[number + 1]))
        for number, (one, other) in enumerate(zip(points, points[1:])):
            share = frac(one[0][0] * 2 * other[0][1] + other[0][0] * one[0][1], 3 * one[0][1] * other[0][1])
            self.assertEqual(atlas.slopes(share, t), (rates[number + 1], rates[number + 1]))


class HandTest(LineCase):
    def test_along_s(self):
        atlas = Atlas(stair())
        self.assertEqual(atlas.along_s((0, 1)), [
            ((0, 1), (0, 1)), ((2, 1), (2, 1)), ((7, 1), (17, 1)), ((9, 1), (41, 1)),
        ])
        # At t = 5 the other road costs 2, at t = 6 nothing, at t = 11/2 just 1.
        self.assertEqual(atlas.along_s((5, 1)), [((0, 1), (0, 1)), ((2, 1), (2, 1)), ((9, 1), (16, 1))])
        self.assertEqual(atlas.along_s((6, 1)), [((0, 1), (0, 1)), ((9, 1), (0, 1))])
        self.assertEqual(atlas.along_s((11, 2)), [((0, 1), (0, 1)), ((9, 1), (9, 1))])
        self.assertEqual(atlas.along_s((9, 2)), [((0, 1), (0, 1)), ((2, 1), (2, 1)), ((9, 1), (23, 1))])
        self.assertEqual(atlas.along_s((9, 1)), [((0, 1), (0, 1)), ((9, 1), (-54, 1))])

    def test_along_t(self):
        atlas = Atlas(stair())
        self.assertEqual(atlas.along_t((0, 1)), [((0, 1), (0, 1)), ((9, 1), (0, 1))])
        self.assertEqual(atlas.along_t((1, 1)), [((0, 1), (1, 1)), ((11, 2), (1, 1)), ((9, 1), (-6, 1))])
        self.assertEqual(atlas.along_t((8, 1)), [
            ((0, 1), (29, 1)), ((9, 2), (20, 1)), ((11, 2), (8, 1)), ((9, 1), (-48, 1)),
        ])

    def test_slopes(self):
        atlas = Atlas(stair())
        told = (((0, 1), None, 1), ((1, 1), 1, 1), ((2, 1), 1, 3), ((9, 2), 3, 3), ((7, 1), 3, 12), ((8, 1), 12, 12),
                ((9, 1), 12, None))
        for s, left, right in told:
            expected = tuple(None if slope is None else (slope, 1) for slope in (left, right))
            self.assertEqual(atlas.slopes(s, (0, 1)), expected)
        self.assertEqual(atlas.slopes((7, 1), (1, 3)), ((3, 1), (34, 3)))

    def test_both_lines(self):
        for net in (stair(), works()):
            atlas = Atlas(net)
            at = [(0, 1), (1, 1), (7, 2), (4, 1), (1, 3)]
            self.assertGreater(self.assert_lines(net, atlas, at, at), 4)

    def test_one_setting(self):
        net = stair()
        net.box(s=(3, 3))
        atlas = Atlas(net)
        self.assertEqual(atlas.along_s((0, 1)), [((3, 1), (5, 1))])
        self.assertEqual(atlas.slopes((3, 1), (0, 1)), (None, None))
        net.box(s=(0, 9), t=(5, 5))
        atlas = Atlas(net)
        self.assertEqual(atlas.along_t((3, 1)), [((5, 1), (4, 1))])
        self.assertEqual(len(atlas.along_s((5, 1))), 3)
        self.assertEqual(atlas.slopes((2, 1), (5, 1)), ((1, 1), (2, 1)))
        net.box(s=(3, 3))
        self.assertEqual(Atlas(net).along_t((3, 1)), [((5, 1), (4, 1))])
        self.assertEqual(Atlas(net).along_s((5, 1)), [((3, 1), (4, 1))])

    def test_a_stretch_of_one_setting_within_a_box(self):
        net = stair()
        net.want("a", 1, (-5, 0))
        atlas = Atlas(net)
        self.assertEqual(atlas.along_s((0, 1)), [((5, 1), (11, 1))])
        self.assertEqual(atlas.slopes((5, 1), (0, 1)), (None, None))
        self.assertEqual(len(atlas.along_t((5, 1))), 4)

    def test_ends_within_the_box(self):
        net = stair()
        net.change("r", floor=(1, 0))
        net.change("q", rungs=(((1, 0), (12, -2)),))
        atlas = Atlas(net)
        self.assertEqual(atlas.along_s((0, 1))[0], ((1, 1), (1, 1)))
        self.assertEqual(atlas.along_s((0, 1))[-1][0], (9, 1))
        self.assertEqual(atlas.slopes((1, 1), (0, 1)), (None, (1, 1)))
        net.want("b", 1, (0, 2))
        net.want("a", 1, (0, -2))
        atlas = Atlas(net)
        self.assertEqual([at for at, _ in atlas.along_s((0, 1))], [(1, 2), (3, 2), (4, 1), (9, 2)])
        self.assertEqual(atlas.slopes((9, 2), (0, 1)), ((24, 1), None))

    def test_a_line_that_is_straight_has_no_bend(self):
        # Rungs of one price, and a road that is as dear as another one.
        net = Net(hours=2, s_box=(0, 9), t_box=(0, 9))
        net.place("a")
        net.place("b")
        net.want("a", 1, (0, -1))
        net.want("b", 1, (0, 1))
        net.road("r", "a", "b", rungs=(((1, 0), (2, 1)), ((2, 0), (2, 1)), ((3, 0), (2, 1))))
        net.road("q", "a", "b", rungs=((None, (2, 1)),))
        self.assertEqual(Atlas(net).along_s((1, 2)), [((0, 1), (0, 1)), ((9, 1), (45, 2))])
        self.assertEqual(Atlas(net).along_t((4, 1)), [((0, 1), (8, 1)), ((9, 1), (44, 1))])


class RefusalTest(LineCase):
    def assert_refused(self, error, ask, *at):
        with self.assertRaises(error) as caught:
            ask(*at)
        self.assertIs(type(caught.exception), error)
        return caught.exception

    def assert_bars(self, net, paper, box):
        lack = set_lack(net, paper)
        self.assertTrue(any(before(NOUGHT, value(lack, frac(s))) for s in box))
        paper[1].clear()

    def assert_falls(self, net, ring, box):
        price = ring_price(net, ring)
        self.assertTrue(any(before(value(price, frac(t)), NOUGHT) for t in box))
        ring.clear()

    def test_outside(self):
        for net in (stair(), valley()):
            net.box(s=(0, 4), t=(0, 2))
            for _ in range(2):
                refusal = self.assert_refused(Outside, Atlas(net).along_s, (21, 10))
                self.assertEqual((refusal.dial, refusal.at), ("t", (21, 10)))
                refusal = self.assert_refused(Outside, Atlas(net).along_s, (-1, 1))
                self.assertEqual((refusal.dial, refusal.at), ("t", (-1, 1)))
                refusal = self.assert_refused(Outside, Atlas(net).along_t, (5, 1))
                self.assertEqual((refusal.dial, refusal.at), ("s", (5, 1)))
                refusal = self.assert_refused(Outside, Atlas(net).along_t, (-1, 7))
                self.assertEqual((refusal.dial, refusal.at), ("s", (-1, 7)))

    def test_no_bottom_at_t(self):
        net = stair()
        net.road("back", "b", "a", rungs=((None, (-8, 1)),))
        # q and back come to 4-1t.
        atlas = Atlas(net)
        for _ in range(2):
            for t in ((41, 10), (9, 1)):
                ring = self.assert_refused(NoBottom, atlas.along_s, t).paper
                self.assertTrue(before(value(ring_price(net, ring), t), NOUGHT))
                ring.clear()
        self.assertEqual(len(atlas.along_s((4, 1))), 2)
        self.assertEqual(atlas.along_t((2, 1))[-1][0], (4, 1))
        # Ahead of what bars s.
        net.want("a", 1, (-1, -1))
        self.assert_refused(NoBottom, Atlas(net).along_s, (9, 1))
        self.assert_bars(net, self.assert_refused(Barred, Atlas(net).along_s, (4, 1)).paper, net.s_box)

    def test_no_plan_at_any_s(self):
        net = stair()
        net.want("a", 1, (-1, -1))
        atlas = Atlas(net)
        for _ in range(2):
            self.assert_bars(net, self.assert_refused(Barred, atlas.along_s, (0, 1)).paper, net.s_box)
            paper = self.assert_refused(Barred, atlas.along_t, (5, 1)).paper
            self.assertTrue(before(NOUGHT, value(set_lack(net, paper), (5, 1))))

    def test_barred_at_s(self):
        net = stair()
        net.change("q", rungs=(((1, 0), (12, -2)),))
        net.road("fall", "b", "b", rungs=((None, (-1, 0)),))
        # Up to s = 8, and no t has a bottom.
        atlas = Atlas(net)
        for _ in range(2):
            for s in ((9, 1), (81, 10)):
                paper = self.assert_refused(Barred, atlas.along_t, s).paper
                self.assertTrue(before(NOUGHT, value(set_lack(net, paper), s)))
                paper[1].clear()
            self.assert_falls(net, self.assert_refused(NoBottom, atlas.along_t, (8, 1)).paper, net.t_box)
            self.assert_falls(net, self.assert_refused(NoBottom, atlas.along_s, (3, 1)).paper, net.t_box)


class MadeTest(LineCase):
    def test_nets(self):
        bends = 0
        for seed in range(60):
            net = made_net(seed, hours=1 + seed % 3, places=4, roads=8, below=seed % 3 == 0, endless=0.15,
                           top=4 + seed % 9)
            atlas = Atlas(net)
            s_span, t_span = atlas.reach()[0], atlas.bottom()[0]
            if s_span is None or t_span is None:
                continue
            chance = random.Random(seed)
            at_s = settings(chance, s_span.low, s_span.high, 2)
            at_t = settings(chance, t_span.low, t_span.high, 2)
            # Also where oblongs begin and end.
            at_s += [one.s_span.high for one in atlas.told()[:3]]
            at_t += [one.t_span.high for one in atlas.told()[:3]]
            bends += self.assert_lines(net, atlas, at_s, at_t)
        self.assertGreater(bends, 300)

    def test_large_nets(self):
        for seed in range(4):
            net = made_net(seed, hours=6, places=6, roads=12, top=40, cheap=40, endless=0.1)
            atlas = Atlas(net)
            if atlas.reach()[0] and atlas.bottom()[0]:
                self.assert_lines(net, atlas, [atlas.reach()[0].middle()], [atlas.bottom()[0].middle()])


if __name__ == "__main__":
    unittest.main()
