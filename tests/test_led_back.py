"""Nets led down, solved and led back: what is told holds against the net."""

import random
import unittest

from dialweir.fracs import frac
from dialweir.looker import cost, plan_fault, prices_fault, ring_price, set_lack
from dialweir.lower import Lowered
from dialweir.moves import four_at, product, value
from dialweir.solve import bar, best, ring_at
from made_nets import made_net, runs_of, settings, whole_cost, whole_plans


def above(a):
    return a[0] > 0


class LedBackTest(unittest.TestCase):
    def assert_told(self, net, s, t, *, s_ahead=False, t_ahead=False):
        """The plan fits and the prices suit, or what bars the setting does; the plan where there is one."""
        lowered = Lowered(net)
        barred = bar(lowered.needs, lowered.arcs, s)
        if barred is not None:
            self.assertTrue(above(value(set_lack(net, lowered.up_set(*barred)), s)))
            return None
        ring = ring_at(len(lowered.needs), lowered.arcs, t)
        if ring is not None:
            price = ring_price(net, lowered.up_ring(ring))
            self.assertTrue(above(value((-price[0], -price[1]), t)))
            return None
        loads, heights = best(lowered.needs, lowered.arcs, s, t, s_ahead=s_ahead, t_ahead=t_ahead)
        rows, prices = lowered.up_plan(loads), lowered.up_prices(heights)
        self.assertIsNone(plan_fault(net, rows, s))
        self.assertIsNone(prices_fault(net, rows, prices, s, t))
        four = lowered.fixed
        for load, (_, _, _, price) in zip(loads, lowered.arcs):
            four = tuple(one + other for one, other in zip(four, product(load, price)))
        self.assertEqual(cost(net, rows, s, t), four_at(four, s, t))
        return rows

    def test_all_plans_of_small_nets(self):
        tried = 0
        for seed in range(60):
            net = made_net(seed, hours=1 + seed % 2, places=3, roads=3, top=2, cheap=5, below=seed % 3 == 0)
            if len(net.parts()) > 5:
                continue
            for s in (-3, 0, 1):
                plans = list(whole_plans(net, s, 4))
                for t in (-2, 0, 3):
                    rows = self.assert_told(net, (s, 1), (t, 1))
                    if rows is None:
                        continue
                    told = cost(net, rows, (s, 1), (t, 1))
                    self.assertLessEqual(told, min((frac(whole_cost(net, plan, s, t)) for plan in plans), default=told))
                    # Its loads are whole numbers; where they are no greater it is among those that were tried.
                    plan = [base + step * s for _, _, base, step in rows]
                    if max(plan, default=0) <= 4:
                        self.assertIn(plan, plans)
                    tried += len(plans)
        self.assertGreater(tried, 300)

    def test_nets_of_each_kind(self):
        told = 0
        for seed in range(60):
            shape = {"hours": 1 + seed % 6, "places": 2 + seed % 7, "roads": 4 + seed % 9, "below": seed % 4 == 0}
            net = made_net(seed, top=3 + seed % 20, cheap=3 + seed % 11, **shape)
            chance = random.Random(seed)
            for s in settings(chance, (-3, 1), (3, 1), 3):
                for t in settings(chance, (-2, 1), (4, 1), 2):
                    told += self.assert_told(net, s, t) is not None
        self.assertGreater(told, 300)

    def test_ahead(self):
        for seed in range(40):
            net = made_net(seed, hours=1 + seed % 3, places=4, roads=7)
            lowered = Lowered(net)
            ends = [(at, 1) for at in (-3, 3)]
            if any(bar(lowered.needs, lowered.arcs, s) for s in ends):
                continue
            for s, t in (((-3, 1), (-2, 1)), ((1, 2), (1, 3)), ((2, 1), (7, 2))):
                for s_ahead, t_ahead in ((True, False), (False, True), (True, True)):
                    self.assert_told(net, s, t, s_ahead=s_ahead, t_ahead=t_ahead)

    def test_sets_that_bar(self):
        """Nets whose wants were made greater: what bars them is above nought."""
        barred = 0
        for seed in range(60):
            net = made_net(seed, hours=1 + seed % 3, places=4, roads=6, passages=0.5)
            spots = net.spots()
            place, hour = random.Random(seed).choice(spots)
            base, step = net.place_told(place)[3][hour - 1]
            net.want(place, hour, (base + 2, step + 1))
            other, other_hour = random.Random(seed + 1).choice(spots)
            if (other, other_hour) != (place, hour):
                base, step = net.place_told(other)[3][other_hour - 1]
                net.want(other, other_hour, (base - 2, step - 1))
            for s in ((-3, 1), (-2, 1), (1, 2), (3, 1)):
                barred += self.assert_told(net, s, (0, 1)) is None
        self.assertGreater(barred, 60)

    def test_rings_that_fall(self):
        fallen = 0
        for seed in range(60):
            net = made_net(seed, hours=1 + seed % 2, places=3, roads=8, endless=0.9, below=True, passages=0.1)
            lowered = Lowered(net)
            for t in ((-2, 1), (1, 2), (4, 1)):
                ring = ring_at(len(lowered.needs), lowered.arcs, t)
                if ring is not None:
                    told = lowered.up_ring(ring)
                    self.assertLess(value(ring_price(net, told), t)[0], 0)
                    self.assertTrue(all(part in [(name, hour) for name, hour, *_ in runs_of(net)] for part in told))
                    fallen += 1
        self.assertGreater(fallen, 30)


if __name__ == "__main__":
    unittest.main()
