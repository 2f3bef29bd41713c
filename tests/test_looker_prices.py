"""Prices held against a plan of their net, and oblongs held against it at their corners."""

import copy
import random
import types
import unittest

from dialweir.errors import NoPlan
from dialweir.fracs import Span
from dialweir.looker import oblong_fault, prices_fault
from dialweir.lower import Lowered
from dialweir.net import Net
from dialweir.solve import bar, best, ring_at
from made_nets import made_net, settings
from papers import FOUR, LOADS, PRICES, raised, set_row, works

SETTINGS = ((0, 1), (1, 1), (1, 3), (4, 1))


class PricesTest(unittest.TestCase):
    def assert_fault(self, prices, s, t, fault, *, net=None, loads=LOADS):
        net = works() if net is None else net
        kept = (list(loads), list(prices), str(net))
        self.assertEqual(prices_fault(net, loads, prices, s, t), fault)
        self.assertEqual((loads, prices, str(net)), kept)

    def test_prices_that_suit(self):
        for s in ((0, 1), (1, 2), (1, 1)):
            for t in SETTINGS:
                self.assert_fault(PRICES, s, t, None)

    def test_rows_that_are_not_the_doors_and_halls(self):
        self.assert_fault([PRICES[1], PRICES[0]] + PRICES[2:], (0, 1), (0, 1), ("rows",))
        self.assert_fault([], (0, 1), (0, 1), ("rows",))
        for at, (place, hour, part, base, step) in enumerate(PRICES):
            self.assert_fault(PRICES[:at] + PRICES[at + 1:], (0, 1), (0, 1), ("rows",))
            self.assert_fault(PRICES[:at + 1] + PRICES[at:], (0, 1), (0, 1), ("rows",))
            for row in (("lake", hour, part), (place, 3, part), (place, hour, "both")):
                self.assert_fault(set_row(PRICES, at, row + (base, step)), (0, 1), (0, 1), ("rows",))
        # Ahead of all other faults.
        self.assert_fault(raised(PRICES, {("spring", 1, "hall"): (9, 0)})[1:], (0, 1), (0, 1), ("rows",))

    def test_no_plan(self):
        bad = set_row(LOADS, 4, ("mill", 1, 3, 1))
        for prices in (PRICES, [], raised(PRICES, {("spring", 1, "hall"): (9, 0)})):
            with self.assertRaises(NoPlan) as caught:
                prices_fault(works(), bad, prices, (0, 1), (0, 1))
            self.assertEqual(caught.exception.fault, ("sum", "mill", 1))
        with self.assertRaises(NoPlan) as caught:
            prices_fault(works(), [], PRICES, (0, 1), (0, 1))
        self.assertEqual(caught.exception.fault, ("rows",))

    def test_dear(self):
        # The gain of ("up", 1) is 2+1t, just what its second rung costs.
        self.assert_fault(raised(PRICES, {("spring", 1, "hall"): (1, 0), ("spring", 1, "door"): (1, 0)}), (0, 1), (0, 1),
                          ("dear", "up", 1))
        self.assert_fault(raised(PRICES, {("mill", 1, "door"): (0, -1)}), (0, 1), (1, 5), ("dear", "up", 1))
        # The gain of the store is 1, its price.
        lower = {("mill", 2, "door"): (-1, 0), ("spring", 2, "door"): (-1, 0), ("spring", 2, "hall"): (-1, 0)}
        self.assert_fault(raised(PRICES, lower), (0, 1), (0, 1), ("dear", "mill", 1))
        self.assert_fault(raised(PRICES, {("sea", 1, "door"): (-4, 0)}), (0, 1), (0, 1), ("dear", "down", 1))

    def test_cheap(self):
        # On ("up", 2) runs no more than the floor, so that its gain may be less, but not greater than 1.
        self.assert_fault(raised(PRICES, {("spring", 2, "hall"): (1, 0), ("spring", 2, "door"): (1, 0)}), (0, 1), (0, 1),
                          None)
        self.assert_fault(raised(PRICES, {("spring", 2, "hall"): (-1, 0), ("spring", 2, "door"): (-1, 0)}), (0, 1),
                          (0, 1), ("cheap", "up", 2))
        # On ("down", 1) the first rung is full, the second one empty: the gain is from 1t to 3+1t.
        for by, fault in ((0, None), (-3, None), (-4, ("dear", "down", 1)), (1, ("cheap", "down", 1))):
            change = {("sea", 1, "door"): (by, 0), ("sea", 1, "hall"): (by, 0)}
            self.assert_fault(raised(PRICES, change), (0, 1), (2, 1), fault)

    def test_full_at_one_setting_alone(self):
        # ("down", 2) fills its first rung just at s = 1: only there its gain may be greater than 1t.
        change = {("sea", 2, "door"): (2, 0), ("sea", 2, "hall"): (2, 0)}
        self.assert_fault(raised(PRICES, change), (1, 1), (2, 1), None)
        self.assert_fault(raised(PRICES, change), (99, 100), (2, 1), ("cheap", "down", 2))
        # Beyond it its gain has to be what the second rung costs.
        self.assert_fault(raised(PRICES, change), (101, 100), (2, 1), ("dear", "down", 2))
        change = {("sea", 2, "door"): (3, 0), ("sea", 2, "hall"): (3, 0)}
        self.assert_fault(raised(PRICES, change), (101, 100), (2, 1), None)
        self.assert_fault(raised(PRICES, change), (4, 1), (2, 1), None)

    def test_doors(self):
        self.assert_fault(raised(PRICES, {("sea", 1, "hall"): (-1, 0)}), (0, 1), (0, 1), ("door", "sea", 1))
        # Nothing comes to the spring.
        self.assert_fault(raised(PRICES, {("spring", 1, "door"): (9, 0), ("spring", 2, "door"): (9, 9)}), (0, 1), (1, 1),
                          None)

    def test_where_just_one_comes_or_less(self):
        net = Net(s_box=(0, 9))
        net.place("a")
        net.place("b")
        net.want("a", 1, (0, -1))
        net.want("b", 1, (0, 1))
        net.road("r", "a", "b")
        prices = [("a", 1, "door", 0, 0), ("a", 1, "hall", 0, 0), ("b", 1, "door", 0, 0), ("b", 1, "hall", -1, 0)]
        for s, fault in (((0, 1), None), ((1, 9), ("door", "b", 1)), ((1, 1), ("door", "b", 1))):
            self.assert_fault(prices, s, (0, 1), fault, net=net, loads=[("r", 1, 0, 1)])

    def test_halls(self):
        self.assert_fault(raised(PRICES, {("sea", 2, "hall"): (0, 1)}), (0, 1), (0, 1), None)
        self.assert_fault(raised(PRICES, {("sea", 2, "hall"): (0, 1)}), (0, 1), (1, 7), ("hall", "sea", 2))
        self.assert_fault(raised(PRICES, {("spring", 1, "door"): (-1, 0)}), (0, 1), (0, 1), ("hall", "spring", 1))

    def test_a_passage_that_is_full_and_one_that_is_not(self):
        # What lies ahead of the mill's first hour may be cheaper, for its passage is full.
        change = {("mill", 1, "door"): (-2, 0), ("spring", 1, "hall"): (-2, 0), ("spring", 1, "door"): (-2, 0)}
        for s in ((0, 1), (1, 3)):
            self.assert_fault(raised(PRICES, change), s, (0, 1), None)
        net = works()
        net.through("mill", (7, 1))
        self.assert_fault(raised(PRICES, change), (0, 1), (0, 1), ("hall", "mill", 1), net=net)
        net.through("mill")
        self.assert_fault(raised(PRICES, change), (0, 1), (0, 1), ("hall", "mill", 1), net=net)
        # But what comes there never is dearer than what it passes to.
        change = {place: (2, 0) for place in change}
        self.assert_fault(raised(PRICES, change), (0, 1), (0, 1), ("door", "mill", 1))
        # A passage of the room nought is full.
        net = works()
        net.place("pool")
        net.through("pool", (0, 0))
        pool = [("pool", 1, "door", 0, 0), ("pool", 1, "hall", 5, 0), ("pool", 2, "door", 5, 0), ("pool", 2, "hall", 0, 0)]
        self.assert_fault(PRICES + pool, (0, 1), (0, 1), None, net=net)
        net.through("pool", (0, 1))
        self.assert_fault(PRICES + pool, (0, 1), (0, 1), None, net=net)
        self.assert_fault(PRICES + pool, (1, 2), (0, 1), ("hall", "pool", 1), net=net)

    def test_the_first_of_two(self):
        dear = {("spring", 1, "hall"): (1, 0)}
        cheap = {("spring", 2, "hall"): (-1, 0)}
        door = {("sea", 1, "hall"): (-1, 0)}
        hall = {("sea", 2, "hall"): (1, 0)}
        for changes, fault in (
            ({**dear, **cheap, **door, **hall}, ("dear", "up", 1)),
            ({**cheap, **door, **hall}, ("cheap", "up", 2)),
            ({**door, **hall}, ("door", "sea", 1)),
            ({**hall}, ("hall", "sea", 2)),
            # An earlier part's "cheap" ahead of a later one's "dear", an earlier spot's "hall" ahead of a "door".
            ({**cheap, ("mill", 2, "door"): (-1, 0), ("spring", 2, "hall"): (-3, 0)}, ("cheap", "up", 2)),
            ({("sea", 1, "hall"): (1, 0), ("sea", 2, "hall"): (-1, 0)}, ("hall", "sea", 1)),
        ):
            self.assert_fault(raised(PRICES, changes), (0, 1), (0, 1), fault)

    def test_rung_by_rung(self):
        net = Net(s_box=(0, 9))
        net.place("a")
        net.place("b")
        net.want("a", 1, (0, -1))
        net.want("b", 1, (0, 1))
        net.road("r", "a", "b", rungs=(((2, 0), (1, 0)), ((0, 0), (2, 0)), ((2, 0), (3, 0)), (None, (5, 0))))
        # From which gain to which one suits each load.
        for s, low, high in (((0, 1), -99, 1), ((1, 1), 1, 1), ((2, 1), 1, 3), ((5, 2), 3, 3), ((4, 1), 3, 5),
                             ((9, 2), 5, 5), ((9, 1), 5, 5)):
            for gain in (-99, 0, 1, 2, 3, 4, 5, 6):
                prices = [("a", 1, "door", 0, 0), ("a", 1, "hall", 0, 0), ("b", 1, "door", gain, 0),
                          ("b", 1, "hall", gain, 0)]
                fault = None
                if gain < low:
                    fault = ("dear", "r", 1)
                if gain > high:
                    fault = ("cheap", "r", 1)
                self.assert_fault(prices, s, (0, 1), fault, net=net, loads=[("r", 1, 0, 1)])

    def test_nothing(self):
        self.assert_fault([], (0, 1), (0, 1), None, net=Net(), loads=[])
        self.assertIsNone(prices_fault(Net(), [], [], (1, 2), (1, 2)))


def oblong(s_span, t_span, loads=LOADS, prices=PRICES, four=FOUR):
    """What has the fields of an oblong."""
    return types.SimpleNamespace(s_span=Span(*s_span), t_span=Span(*t_span), loads=list(loads), prices=list(prices),
                                 four=four)


class OblongTest(unittest.TestCase):
    def assert_fault(self, told, fault):
        kept = copy.deepcopy(vars(told))
        self.assertEqual(oblong_fault(works(), told), fault)
        self.assertEqual(vars(told), kept)

    def test_one_that_holds(self):
        self.assert_fault(oblong(((0, 1), (1, 1)), ((0, 1), (4, 1))), None)
        self.assert_fault(oblong(((1, 3), (1, 2)), ((1, 5), (7, 2))), None)
        self.assert_fault(oblong(((1, 2), (1, 2)), ((3, 1), (3, 1))), None)

    def test_beyond(self):
        self.assert_fault(oblong(((0, 1), (2, 1)), ((0, 1), (4, 1))), ("dear", "down", 2))
        # Below nought the floor of the store is met first.
        self.assert_fault(oblong(((-3, 1), (2, 1)), ((0, 1), (4, 1))), ("floor", "mill", 1))

    def test_worth(self):
        for at in range(4):
            four = tuple(number + (place == at) for place, number in enumerate(FOUR))
            self.assert_fault(oblong(((0, 1), (1, 1)), ((0, 1), (4, 1)), four=four), ("worth",))
            self.assert_fault(oblong(((1, 3), (1, 2)), ((1, 5), (7, 2)), four=four), ("worth",))
        # At one corner alone the numbers need not be these.
        self.assert_fault(oblong(((0, 1), (0, 1)), ((0, 1), (0, 1)), four=(11, 8, 8, 8)), None)
        self.assert_fault(oblong(((0, 1), (1, 1)), ((0, 1), (0, 1)), four=(11, 3, 8, 8)), None)

    def test_the_first_corner(self):
        span = ((0, 1), (1, 1))
        # Prices that suit where t is 0 alone, where it is 4 alone.
        late = raised(PRICES, {("sea", 1, "door"): (0, 1), ("sea", 1, "hall"): (0, 1)})
        early = raised(PRICES, {("sea", 1, "door"): (4, -1), ("sea", 1, "hall"): (3, -1), ("sea", 2, "hall"): (0, 1)})
        self.assert_fault(oblong(span, ((0, 1), (4, 1)), prices=late), ("cheap", "down", 1))
        self.assert_fault(oblong(span, ((0, 1), (4, 1)), prices=early), ("cheap", "down", 1))
        self.assert_fault(oblong(span, ((0, 1), (0, 1)), prices=late), None)
        # The plan that breaks at a later corner, and the worth that is wrong at the first one.
        loads = set_row(LOADS, 0, ("up", 1, 6, 2))
        self.assert_fault(oblong(span, ((0, 1), (4, 1)), loads=loads), ("top", "up", 1))
        self.assert_fault(oblong(span, ((0, 1), (4, 1)), loads=loads, four=(0, 0, 0, 0)), ("worth",))
        self.assert_fault(oblong(span, ((0, 1), (4, 1)), loads=loads, prices=late), ("cheap", "down", 1))
        # The low s and the high t come ahead of the high s.
        dear = raised(PRICES, {("spring", 1, "hall"): (0, 1), ("spring", 1, "door"): (0, 1)})
        self.assert_fault(oblong(span, ((0, 1), (4, 1)), loads=loads, prices=dear), ("dear", "up", 1))

    def test_the_plan_ahead_of_the_prices(self):
        loads = set_row(LOADS, 4, ("mill", 1, 3, 1))
        self.assert_fault(oblong(((0, 1), (1, 1)), ((0, 1), (4, 1)), loads=loads, prices=[]), ("sum", "mill", 1))
        self.assert_fault(oblong(((0, 1), (1, 1)), ((0, 1), (4, 1)), loads=[], prices=[]), ("rows",))
        self.assert_fault(oblong(((0, 1), (1, 1)), ((0, 1), (4, 1)), prices=[], four=(0, 0, 0, 0)), ("rows",))


class MadeTest(unittest.TestCase):
    def test_prices_of_the_cheapest_loads(self):
        """Prices led back suit; with one hall or door moved far up or down they mostly do not."""
        suited = 0
        for seed in range(25):
            net = made_net(seed, hours=1 + seed % 3)
            lowered = Lowered(net)
            for s in settings(random.Random(seed), (-3, 1), (3, 1), 2):
                if bar(lowered.needs, lowered.arcs, s) or ring_at(len(lowered.needs), lowered.arcs, (1, 2)):
                    continue
                loads, heights = best(lowered.needs, lowered.arcs, s, (1, 2))
                rows, prices = lowered.up_plan(loads), lowered.up_prices(heights)
                self.assertIsNone(prices_fault(net, rows, prices, s, (1, 2)))
                self.assertEqual(prices_fault(net, rows, prices[1:], s, (1, 2)), ("rows",) if prices else None)
                suited += 1
        self.assertGreater(suited, 30)


if __name__ == "__main__":
    unittest.main()
