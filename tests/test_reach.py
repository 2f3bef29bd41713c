"""The stretches of s that have plans and of t that have a bottom, with their papers."""

import random
import unittest

from atlas_case import AtlasCase
from common import valley
from dialweir.atlas import Atlas, bottom, reach
from dialweir.errors import TooGreat
from dialweir.fracs import Span, frac
from dialweir.looker import ring_price, set_lack
from dialweir.lower import Lowered
from dialweir.net import Net
from dialweir.solve import bar, ring_at
from made_nets import made_net, settings

MILLION = 1000000


def way(gives, wants, room, s_box, floor=(0, 0)):
    """A place that gives, one that wants, and a road between them."""
    net = Net(s_box=s_box)
    net.place("a")
    net.place("b")
    net.want("a", 1, (-gives[0], -gives[1]))
    net.want("b", 1, wants)
    net.road("r", "a", "b", floor=floor, rungs=((room, (0, 0)),))
    return net


def rings(t_box, *prices):
    """A ring of two roads for each two prices."""
    net = Net(t_box=t_box)
    net.place("a")
    for number, (there, back) in enumerate(prices):
        net.place(f"b{number}")
        net.road(f"x{number}", "a", f"b{number}", rungs=((None, there),))
        net.road(f"y{number}", f"b{number}", "a", rungs=((None, back),))
    return net


class StretchCase(AtlasCase):
    def assert_both(self, net):
        """The functions and the atlas tell the same, and again when the papers that they told are changed."""
        atlas = Atlas(net)
        for tell, own, check in ((reach, atlas.reach, self.assert_reach), (bottom, atlas.bottom, self.assert_bottom)):
            first = tell(net)
            check(net, first)
            kept = tell(net)
            self.assertEqual(first, kept)
            for told in (first, own()):
                self.assertEqual(told, kept)
                for paper in told[1:]:
                    if paper is not None:
                        (paper[1] if isinstance(paper, tuple) else paper).clear()
            self.assertEqual((tell(net), own()), (kept, kept))
        return (atlas.reach(), atlas.bottom())


class ReachTest(StretchCase):
    def assert_span(self, net, low, high):
        text = str(net)
        (span, low_paper, high_paper), _ = self.assert_both(net)
        self.assertEqual(span, Span(low, high))
        self.assertEqual(str(net), text)
        return (low_paper, high_paper)

    def test_the_whole_box(self):
        self.assertEqual(self.assert_span(way((3, 1), (3, 1), None, (-3, 9)), (-3, 1), (9, 1)), (None, None))
        self.assertEqual(self.assert_span(way((3, 1), (3, 1), (12, 0), (-3, 9)), (-3, 1), (9, 1)), (None, None))
        self.assertEqual(self.assert_span(Net(s_box=(-2, 5)), (-2, 1), (5, 1)), (None, None))
        self.assertEqual(self.assert_span(way((3, 1), (3, 1), None, (4, 4)), (4, 1), (4, 1)), (None, None))

    def test_it_ends_within_the_box(self):
        low, high = self.assert_span(way((3, 1), (3, 1), (7, 0), (-3, 9)), (-3, 1), (4, 1))
        self.assertIsNone(low)
        self.assertEqual(high, ("in", [("b", 1, "door"), ("b", 1, "hall")]))
        low, high = self.assert_span(way((3, 2), (3, 2), (8, 0), (0, 9)), (0, 1), (5, 2))
        self.assertIsNone(low)

    def test_it_begins_within_the_box(self):
        low, high = self.assert_span(way((9, -2), (9, -2), (4, 0), (0, 4)), (5, 2), (4, 1))
        self.assertIsNone(high)
        self.assertIsNotNone(low)
        # Below s = 3 the floor is more than is there to run.
        self.assert_span(way((0, 1), (0, 1), None, (0, 9), floor=(3, 0)), (3, 1), (9, 1))

    def test_both_ends_within_the_box(self):
        net = way((5, 1), (5, 1), (7, 0), (-5, 9), floor=(2, 0))
        low, high = self.assert_span(net, (-3, 1), (4, 1))
        self.assertEqual(set_lack(net, low), (-3, -1))
        self.assertEqual(set_lack(net, high), (-4, 1))
        self.assert_span(way((5, 3), (5, 3), (8, 0), (0, 9), floor=(1, 0)), (0, 1), (4, 3))

    def test_one_setting(self):
        for gives, wants, at in (((5, 0), (3, 1), (2, 1)), ((5, 1), (3, 4), (2, 3)), ((0, -7), (3, 1), (-3, 8))):
            net = way(gives, wants, None, (-9, 9))
            low, high = self.assert_span(net, at, at)
            self.assertIsNotNone(low)
            self.assertIsNotNone(high)
        net = way((5, 0), (3, 1), None, (2, 9))
        self.assertIsNone(self.assert_span(net, (2, 1), (2, 1))[0])
        net = way((5, 0), (3, 1), None, (-2, 2))
        self.assertIsNone(self.assert_span(net, (2, 1), (2, 1))[1])

    def assert_none(self, net, papers):
        (span, low, high), _ = self.assert_both(net)
        self.assertIsNone(span)
        self.assertIsNotNone(low)
        self.assertEqual(1 + (high is not None), papers)
        return (low, high)

    def test_none_for_one_reason(self):
        low, _ = self.assert_none(way((5, 0), (5, 0), (4, 0), (-9, 9)), 1)
        self.assertEqual(low, ("in", [("b", 1, "door"), ("b", 1, "hall")]))
        self.assert_none(way((5, 0), (5, 0), (4, 0), (3, 3)), 1)
        self.assert_none(way((5, 0), (6, 0), None, (-9, 9)), 1)
        self.assert_none(way((6, 0), (5, 0), None, (-9, 9)), 1)
        self.assert_none(way((19, 1), (19, 1), (9, 0), (-9, 9)), 1)
        self.assert_none(way((19, -1), (19, -1), (9, 0), (-9, 9)), 1)
        self.assert_none(way((5, 0), (3, 1), None, (3, 9)), 1)
        self.assert_none(valley(), 1)

    def test_none_for_two_reasons(self):
        # Up to s = 5 one road has too little room, from s = 3 on the other one.
        net = way((10, -1), (10, -1), (5, 0), (0, 9))
        net.place("c")
        net.want("c", 1, (2, 1))
        net.want("a", 1, (-12, 0))
        net.road("q", "a", "c", rungs=(((5, 0), (0, 0)),))
        self.assert_none(net, 2)
        # One setting alone has all that is wanted, and there the road has too little room.
        self.assert_none(way((5, 0), (3, 1), (4, 0), (-9, 9)), 2)

    def test_passages_and_stores(self):
        net = Net(hours=3, s_box=(0, 20))
        net.place("a")
        net.place("b")
        net.want("a", 1, (0, -1))
        net.want("b", 3, (0, 1))
        net.store("a", (4, 0))
        net.store("b", (2, 0))
        net.through("b", (5, 0))
        net.road("r", "a", "b", takes=1, rungs=(((4, 0), (0, 0)),))
        # By r at the first two hours, four at most each; stored at b up to the third no more than 2.
        low, high = self.assert_span(net, (0, 1), (5, 1))
        self.assertIsNotNone(high)
        net.through("b", (9, 0))
        self.assert_span(net, (0, 1), (6, 1))
        net.through("b", (3, 0))
        self.assert_span(net, (0, 1), (3, 1))

    def test_great_boxes(self):
        net = way((MILLION, 999999), (MILLION, 999999), (MILLION, 1), (-MILLION, MILLION))
        self.assert_span(net, (-MILLION, 999999), (0, 1))
        net = way((3, 7), (5, MILLION), None, (-MILLION, MILLION))
        self.assert_span(net, (-2, 999993), (-2, 999993))
        net = way((3, 7), (3, MILLION), None, (-MILLION, MILLION))
        self.assert_span(net, (0, 1), (0, 1))


class BottomTest(StretchCase):
    def assert_span(self, net, low, high):
        _, (span, low_ring, high_ring) = self.assert_both(net)
        self.assertEqual(span, Span(low, high))
        return (low_ring, high_ring)

    def assert_none(self, net, papers):
        _, (span, low, high) = self.assert_both(net)
        self.assertIsNone(span)
        self.assertEqual(1 + (high is not None), papers)

    def test_the_whole_box(self):
        self.assertEqual(self.assert_span(Net(t_box=(-4, 7)), (-4, 1), (7, 1)), (None, None))
        net = rings((-4, 7), ((3, 1), (1, 0)))
        self.assertEqual(self.assert_span(net, (-4, 1), (7, 1)), (None, None))
        # A ring that comes to just nought has a bottom.
        net = rings((-4, 7), ((3, 1), (-3, -1)))
        self.assertEqual(self.assert_span(net, (-4, 1), (7, 1)), (None, None))
        # Rings of roads with an end have one.
        net.change("x0", rungs=(((5, 0), (-9, 0)),))
        self.assertEqual(self.assert_span(net, (-4, 1), (7, 1)), (None, None))

    def test_it_ends_within_the_box(self):
        net = rings((-4, 7), ((3, 1), (4, -3)))
        low, high = self.assert_span(net, (-4, 1), (7, 2))
        self.assertIsNone(low)
        self.assertEqual(sorted(high), [("x0", 1), ("y0", 1)])
        self.assertEqual(ring_price(net, high), (7, -2))

    def test_it_begins_within_the_box(self):
        low, high = self.assert_span(rings((-4, 7), ((3, 1), (-5, 0))), (2, 1), (7, 1))
        self.assertIsNone(high)
        self.assertIsNotNone(low)

    def test_both_ends_within_the_box(self):
        low, high = self.assert_span(rings((-9, 9), ((3, 2), (-3, 1)), ((4, -2), (1, 0))), (0, 1), (5, 2))
        self.assertEqual((sorted(low), sorted(high)), ([("x0", 1), ("y0", 1)], [("x1", 1), ("y1", 1)]))

    def test_one_setting(self):
        self.assert_span(rings((-9, 9), ((3, 2), (-4, 1)), ((4, -5), (-3, 2))), (1, 3), (1, 3))

    def test_none(self):
        self.assert_none(rings((-9, 9), ((3, 0), (-4, 0))), 1)
        self.assert_none(rings((-9, 9), ((3, 1), (-14, 0))), 1)
        self.assert_none(rings((-9, 9), ((3, 2), (-9, 1)), ((4, -5), (-3, 0))), 2)

    def test_a_road_from_a_place_to_itself(self):
        net = Net(hours=2, t_box=(0, 9))
        net.place("a")
        net.road("r", "a", "a", rungs=(((3, 0), (-9, 0)), (None, (5, -1))))
        low, high = self.assert_span(net, (0, 1), (5, 1))
        self.assertIn(high, ([("r", 1)], [("r", 2)]))

    def test_passages_with_an_end(self):
        net = rings((-4, 7), ((3, 1), (4, -3)))
        net.through("a", (MILLION, 0))
        self.assertEqual(self.assert_span(net, (-4, 1), (7, 1)), (None, None))

    def test_great_boxes(self):
        net = rings((-MILLION, MILLION), ((1, MILLION), (-MILLION, 999999)))
        self.assert_span(net, (999999, 1999999), (MILLION, 1))


class MadeTest(StretchCase):
    def test_settings_are_barred_just_out_of_the_stretches(self):
        kinds = set()
        for seed in range(120):
            net = made_net(seed, hours=1 + seed % 3, places=3 + seed % 3, roads=4 + seed % 5, below=seed % 3 == 0,
                           top=4 + seed % 9)
            # Made a little greater, so that not all of the box has plans.
            place = net.place_names()[seed % 3]
            base, step = net.place_told(place)[3][0]
            other = net.place_names()[-1]
            net.want(place, 1, (base + seed % 5, step + 1))
            if other != place:
                base, step = net.place_told(other)[3][0]
                net.want(other, 1, (base - seed % 5, step - 1))
            (s_span, *_), (t_span, *_) = self.assert_both(net)
            lowered = Lowered(net)
            for s in settings(random.Random(seed), (-3, 1), (3, 1), 6):
                free = bar(lowered.needs, lowered.arcs, s) is None
                self.assertEqual(free, s_span is not None and s_span.holds(s))
            for t in settings(random.Random(seed), (-2, 1), (4, 1), 6):
                free = ring_at(len(lowered.needs), lowered.arcs, t) is None
                self.assertEqual(free, t_span is not None and t_span.holds(t))
            kinds.add((s_span is None, t_span is None))
            kinds.add(None if s_span is None else (s_span.low == frac(-3), s_span.high == frac(3)))
        self.assertLessEqual({(False, False), (True, False), (False, True), (True, True), None}, kinds)

    def test_large_nets(self):
        for seed in range(12):
            self.assert_both(made_net(seed, hours=6, places=6, roads=12, top=100, cheap=100))


class TooGreatTest(unittest.TestCase):
    def test_ahead_of_any_work(self):
        net = Net(hours=6)
        net.place("a")
        for number in range(4):
            net.road(f"r{number}", "a", "a", rungs=(((1, 0), (0, 0)),) * 4)
        for made in (reach, bottom, Atlas):
            made(net)
        # Prices without a bottom, and wants that nothing meets, are found only behind it.
        net.want("a", 1, (1, 0))
        net.road("s", "a", "a", takes=5, rungs=((None, (-1, 0)),))
        for made in (reach, bottom, Atlas):
            with self.assertRaises(TooGreat) as caught:
                made(net)
            self.assertEqual(caught.exception.number, 97)


if __name__ == "__main__":
    unittest.main()
