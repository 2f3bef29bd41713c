"""Plan's rows held against their net: each fault where it first is, and what the rows cost."""

import random
import unittest

from dialweir.errors import NoPlan
from dialweir.looker import cost, plan_fault
from dialweir.net import Net
from made_nets import made_net, runs_of, whole_cost, whole_plans
from papers import LOADS, set_row, works

SETTINGS = ((0, 1), (1, 1), (4, 1), (1, 2), (7, 3))


class FaultTest(unittest.TestCase):
    def assert_fault(self, loads, s, fault, net=None):
        """This is the fault, and cost refuses the rows with it; the rows stay."""
        net = works() if net is None else net
        kept = list(loads)
        text = str(net)
        self.assertEqual(plan_fault(net, loads, s), fault)
        if fault is not None:
            with self.assertRaises(NoPlan) as caught:
                cost(net, loads, s, (1, 3))
            self.assertEqual((caught.exception.fault, caught.exception.word), (fault, "no plan"))
        self.assertEqual((loads, str(net)), (kept, text))

    def test_rows_that_fit(self):
        for s in SETTINGS:
            self.assert_fault(LOADS, s, None)

    def test_rows_that_are_not_the_parts(self):
        swapped = [LOADS[1], LOADS[0]] + LOADS[2:]
        called = [("up", 1), ("up", 2), ("down", 1), ("down", 2), ("mill", 1)]
        self.assert_fault(swapped, (0, 1), ("rows",))
        self.assert_fault(LOADS[::-1], (0, 1), ("rows",))
        self.assert_fault([], (0, 1), ("rows",))
        for at in range(len(LOADS)):
            self.assert_fault(LOADS[:at] + LOADS[at + 1:], (0, 1), ("rows",))
            self.assert_fault(LOADS[:at] + [LOADS[at]] + LOADS[at:], (0, 1), ("rows",))
            name, hour, base, step = LOADS[at]
            self.assert_fault(set_row(LOADS, at, ("side", hour, base, step)), (0, 1), ("rows",))
            self.assert_fault(set_row(LOADS, at, (name, hour + 2, base, step)), (0, 1), ("rows",))
            self.assertEqual((name, hour), called[at])
        # Ahead of all other faults.
        self.assert_fault([("down", 1, -9, 0)] + LOADS[1:], (0, 1), ("rows",))
        self.assert_fault(LOADS + [("spring", 1, 0, 0)], (0, 1), ("rows",))

    def test_floors(self):
        self.assert_fault(set_row(LOADS, 1, ("up", 2, 0, 0)), (0, 1), ("floor", "up", 2))
        self.assert_fault(set_row(LOADS, 0, ("up", 1, 1, -1)), (1, 2), ("floor", "up", 1))
        self.assert_fault(set_row(LOADS, 3, ("down", 2, 0, -1)), (1, 7), ("floor", "down", 2))
        self.assert_fault(set_row(LOADS, 4, ("mill", 1, -1, 0)), (0, 1), ("floor", "mill", 1))

    def test_a_floor_that_moves(self):
        net = Net(s_box=(0, 4))
        net.place("a")
        net.road("r", "a", "a", floor=(1, 1))
        self.assert_fault([("r", 1, 3, 0)], (2, 1), None, net)
        self.assert_fault([("r", 1, 3, 0)], (5, 2), ("floor", "r", 1), net)
        self.assert_fault([("r", 1, 1, 1)], (5, 2), None, net)

    def test_tops(self):
        self.assert_fault(set_row(LOADS, 0, ("up", 1, 7, 1)), (0, 1), ("top", "up", 1))
        self.assert_fault(set_row(LOADS, 0, ("up", 1, 6, 2)), (1, 9), ("top", "up", 1))
        self.assert_fault(set_row(LOADS, 4, ("mill", 1, 6, 1)), (4, 1), ("top", "mill", 1))
        # A last rung without end has no top: the want is the first fault.
        self.assert_fault(set_row(LOADS, 2, ("down", 1, 1000, 0)), (0, 1), ("sum", "mill", 1))

    def test_wants(self):
        self.assert_fault(set_row(LOADS, 4, ("mill", 1, 3, 1)), (0, 1), ("sum", "mill", 1))
        self.assert_fault(set_row(LOADS, 3, ("down", 2, 2, 1)), (1, 2), ("sum", "mill", 2))
        self.assert_fault(set_row(LOADS, 0, ("up", 1, 5, 1)), (0, 1), ("sum", "spring", 1))
        # Worth the same at s = 2 alone.
        twisted = set_row(set_row(LOADS, 2, ("down", 1, 6, -1)), 4, ("mill", 1, 0, 2))
        self.assert_fault(twisted, (1, 1), ("sum", "mill", 2))
        twisted = set_row(LOADS, 0, ("up", 1, 8, 0))
        self.assert_fault(twisted, (2, 1), None)
        self.assert_fault(twisted, (3, 2), ("top", "up", 1))
        self.assert_fault(twisted, (5, 2), ("sum", "spring", 1))

    def test_a_want_that_only_the_sea_misses(self):
        net = works()
        net.want("sea", 2, (3, 2))
        self.assert_fault(LOADS, (0, 1), None, net)
        self.assert_fault(LOADS, (1, 1), ("sum", "sea", 2), net)

    def test_passages(self):
        net = works()
        net.through("mill", (6, 0))
        self.assert_fault(LOADS, (0, 1), None, net)
        self.assert_fault(LOADS, (1, 100), ("through", "mill", 1), net)
        net.through("mill", (2, 0))
        self.assert_fault(LOADS, (0, 1), ("through", "mill", 1), net)
        # At the second hour what was stored comes, too.
        net = works()
        net.want("spring", 1, (-3, 0))
        net.want("sea", 1)
        net.want("sea", 2, (4, 0))
        net.through("mill", (3, 0))
        loads = [("up", 1, 3, 0), ("up", 2, 1, 0), ("down", 1, 0, 0), ("down", 2, 4, 0), ("mill", 1, 3, 0)]
        self.assert_fault(loads, (0, 1), ("through", "mill", 2), net)
        net.through("mill", (4, 0))
        self.assert_fault(loads, (0, 1), None, net)

    def test_passages_bear_what_is_wanted_there_and_what_goes_on(self):
        net = Net()
        net.place("a")
        net.place("b")
        net.want("a", 1, (-5, 0))
        net.want("b", 1, (5, 0))
        net.through("a", (0, 0))
        net.road("r", "a", "b")
        # What leaves a did not come there.
        self.assert_fault([("r", 1, 5, 0)], (0, 1), None, net)
        net.through("b", (4, 0))
        self.assert_fault([("r", 1, 5, 0)], (0, 1), ("through", "b", 1), net)

    def test_the_first_of_two(self):
        # A part's floor ahead of its top, an earlier part ahead of a later one, all parts ahead of all spots.
        broken = set_row(set_row(LOADS, 0, ("up", 1, 7, 1)), 1, ("up", 2, 0, 0))
        self.assert_fault(broken, (0, 1), ("top", "up", 1))
        broken = set_row(set_row(LOADS, 0, ("up", 1, 0, 0)), 1, ("up", 2, 99, 0))
        self.assert_fault(broken, (0, 1), ("floor", "up", 1))
        broken = set_row(set_row(LOADS, 0, ("up", 1, 5, 1)), 4, ("mill", 1, -1, 0))
        self.assert_fault(broken, (0, 1), ("floor", "mill", 1))
        # At one spot the want ahead of the passage, but an earlier spot's passage ahead of a later one's want.
        net = works()
        net.through("mill", (5, 0))
        self.assert_fault(set_row(LOADS, 4, ("mill", 1, 3, 1)), (0, 1), ("sum", "mill", 1), net)
        self.assert_fault(set_row(LOADS, 3, ("down", 2, 2, 1)), (0, 1), ("through", "mill", 1), net)

    def test_nothing(self):
        self.assert_fault([], (1, 2), None, Net())
        net = Net(hours=2)
        net.place("a")
        net.want("a", 2, (1, -1))
        self.assert_fault([], (1, 1), None, net)
        self.assert_fault([], (1, 2), ("sum", "a", 2), net)

    def test_whole_loads_one_by_one(self):
        found = 0
        for seed in range(60):
            net = made_net(seed, hours=1 + seed % 2, places=3, roads=3, top=2, endless=0)
            runs = runs_of(net)
            if len(runs) > 5:
                continue
            for s in (-3, 0, 2):
                fitting = [tuple(loads) for loads in whole_plans(net, s, 3)]
                chance = random.Random(seed)
                tries = fitting[:5] + [tuple(chance.randint(-1, 4) for _ in runs) for _ in range(30)]
                for loads in tries:
                    rows = [(name, hour, load, 0) for (name, hour, *_), load in zip(runs, loads)]
                    self.assertEqual(plan_fault(net, rows, (s, 1)) is None, loads in fitting)
                found += len(fitting)
        self.assertGreater(found, 100)


class CostTest(unittest.TestCase):
    def test_by_hand(self):
        # up at 1: 1 and 3 at the price 1, 2+1s at 2+1t; at 2: 1 at 1. down: 4 at 1t, and at 2 up to 4 at 1t, the rest
        # at 3+1t. The store: 2+1s at 1.
        for s in (0, 1, 2, 4):
            for t in (0, 1, 3):
                down = min(3 + s, 4) * t + max(0, s - 1) * (3 + t)
                by_hand = 4 + (2 + s) * (2 + t) + 1 + 4 * t + down + 2 + s
                self.assertEqual(cost(works(), LOADS, (s, 1), (t, 1)), (by_hand, 1))
        # At s = 1/2 and t = 1/3: 4 + 5/2 * 7/3 + 1 + 4/3 + 7/6 + 5/2
        self.assertEqual(cost(works(), LOADS, (1, 2), (1, 3)), (95, 6))
        self.assertEqual(cost(works(), LOADS, (7, 3), (0, 1)), ((4 * 3 + 13 * 2 + 3 + 4 * 3 + 13) // 3, 1))

    def test_floors_cost_the_first_rungs_price(self):
        net = Net(s_box=(0, 9), t_box=(0, 9))
        net.place("a")
        net.road("r", "a", "a", floor=(2, 1), rungs=(((1, 0), (3, 1)), ((0, 0), (4, 1)), (None, (10, 1))))
        self.assertEqual(cost(net, [("r", 1, 2, 1)], (2, 1), (1, 1)), (16, 1))
        self.assertEqual(cost(net, [("r", 1, 3, 1)], (2, 1), (1, 1)), (20, 1))
        self.assertEqual(cost(net, [("r", 1, 5, 1)], (2, 1), (1, 1)), (42, 1))
        self.assertEqual(cost(net, [("r", 1, 7, 0)], (1, 2), (1, 2)), ((5 * 7 + 2 * 7 + 7 * 21) // 4, 1))

    def test_nothing(self):
        self.assertEqual(cost(Net(), [], (1, 2), (1, 3)), (0, 1))

    def test_unit_by_unit(self):
        for seed in range(40):
            net = made_net(seed, hours=1 + seed % 2, places=3, roads=3, top=3, below=True)
            runs = runs_of(net)
            if len(runs) > 4:
                continue
            for s in (-2, 1):
                for loads in list(whole_plans(net, s, 3))[:20]:
                    rows = [(name, hour, load - 5 * s, 5) for (name, hour, *_), load in zip(runs, loads)]
                    for t in (-2, 0, 3):
                        self.assertEqual(cost(net, rows, (s, 1), (t, 1)), (whole_cost(net, loads, s, t), 1))


if __name__ == "__main__":
    unittest.main()
