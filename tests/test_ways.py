"""Plans parted into ways and rings, and rows joined again."""

import copy
import random
import unittest

from dialweir.atlas import Atlas
from dialweir.errors import NoPlan
from dialweir.fracs import frac, less, plus, times
from dialweir.looker import plan_fault
from dialweir.moves import value
from dialweir.net import Net
from dialweir.ways import joined, parted
from made_nets import made_net, runs_of, settings
from papers import LOADS, set_row, works

NOUGHT = (0, 1)
SETTINGS = ((0, 1), (1, 1), (1, 2), (7, 3), (4, 1))


def wants_at(net, s):
    return {(place, hour): value(net.place_told(place)[3][hour - 1], s) for place, hour in net.spots()}


class WaysCase(unittest.TestCase):
    def assert_parted(self, net, loads, s):
        """Point [19] of the rows, which are told."""
        handed = (str(net), copy.deepcopy(loads))
        rows = parted(net, loads, s)
        self.assertEqual((str(net), loads), handed)
        self.assertIs(type(rows), list)
        self.assertLessEqual(len(rows), len(net.parts()) + len(net.spots()))
        ends = {(name, hour): (start, end) for name, hour, start, end, _, _ in runs_of(net)}
        wants = wants_at(net, s)
        begun, ended = {}, {}
        for row in rows:
            self.assertEqual((type(row), len(row), type(row[2])), (tuple, 3, list))
            kind, amount, parts = row
            self.assertEqual(frac(*amount), amount)
            self.assertGreater(amount[0], 0)
            self.assertTrue(parts)
            for part, behind in zip(parts, parts[1:]):
                self.assertEqual(ends[part][1], ends[behind][0])
            first, last = ends[parts[0]][0], ends[parts[-1]][1]
            if kind == "ring":
                self.assertEqual(first, last)
                self.assertEqual(len({ends[part][0] for part in parts}), len(parts))
            else:
                self.assertEqual(kind, "way")
                begun[first] = plus(begun.get(first, NOUGHT), amount)
                ended[last] = plus(ended.get(last, NOUGHT), amount)
        for spot, amount in begun.items():
            self.assertGreaterEqual(less(less(NOUGHT, wants[spot]), amount)[0], 0)
        for spot, amount in ended.items():
            self.assertGreaterEqual(less(wants[spot], amount)[0], 0)
        self.assert_added_up(net, loads, s, rows)
        again = parted(net, loads, s)
        for _, _, parts in rows:
            parts.clear()
        rows.clear()
        self.assertEqual(parted(net, loads, s), again)
        return again

    def assert_added_up(self, net, loads, s, rows):
        """Part by part the rows are the loads again, here and as `joined` tells."""
        totals = {part: NOUGHT for part in net.parts()}
        for _, amount, parts in rows:
            for part in parts:
                totals[part] = plus(totals[part], amount)
        self.assertEqual(totals, {(name, hour): value((base, step), s) for name, hour, base, step in loads})
        told = joined(net, rows)
        self.assertEqual(told, [(name, hour, value((base, step), s)) for name, hour, base, step in loads])


def triangle():
    """Roads in a ring, a road from a place to itself, and one that leads out of the ring."""
    net = Net(s_box=(0, 9))
    for place in ("a", "b", "c", "d"):
        net.place(place)
    net.want("a", 1, (0, -1))
    net.want("d", 1, (0, 1))
    net.road("ab", "a", "b")
    net.road("bc", "b", "c")
    net.road("ca", "c", "a")
    net.road("aa", "a", "a")
    net.road("cd", "c", "d")
    return net


class PartedTest(WaysCase):
    def test_works(self):
        for s in SETTINGS:
            rows = self.assert_parted(works(), LOADS, s)
            self.assertEqual({kind for kind, _, _ in rows}, {"way"})
        # The stored water goes on to the sea, together with the floor of the second hour.
        self.assertEqual(sorted(self.assert_parted(works(), LOADS, (1, 2))), sorted([
            ("way", (4, 1), [("up", 1), ("down", 1)]), ("way", (5, 2), [("up", 1), ("mill", 1), ("down", 2)]),
            ("way", (1, 1), [("up", 2), ("down", 2)]),
        ]))

    def test_rings(self):
        loads = [("ab", 1, 2, 1), ("bc", 1, 2, 1), ("ca", 1, 2, 0), ("aa", 1, 5, 0), ("cd", 1, 0, 1)]
        # At s = 0 nothing is given or wanted.
        rows = self.assert_parted(triangle(), loads, (0, 1))
        self.assertEqual(sorted((kind, amount, sorted(parts)) for kind, amount, parts in rows), [
            ("ring", (2, 1), [("ab", 1), ("bc", 1), ("ca", 1)]), ("ring", (5, 1), [("aa", 1)]),
        ])
        for s in SETTINGS:
            rows = self.assert_parted(triangle(), loads, s)
            self.assertEqual(sum(kind == "ring" and len(parts) == 1 for kind, _, parts in rows), 1)

    def test_rings_that_meet(self):
        net = Net()
        for place in ("a", "b", "c"):
            net.place(place)
        loads = []
        for name, amount in (("ab", 3), ("ba", 3), ("bc", 2), ("cb", 2)):
            net.road(name, name[0], name[1])
            loads.append((name, 1, amount, 0))
        rows = self.assert_parted(net, loads, (0, 1))
        self.assertEqual([kind for kind, _, _ in rows], ["ring"] * 2)

    def test_parts_that_are_not_used(self):
        net = triangle()
        loads = [("ab", 1, 0, 1), ("bc", 1, 0, 1), ("ca", 1, 0, 0), ("aa", 1, 0, 0), ("cd", 1, 0, 1)]
        self.assertEqual(self.assert_parted(net, loads, (0, 1)), [])
        self.assertEqual(self.assert_parted(net, loads, (3, 2)), [("way", (3, 2), [("ab", 1), ("bc", 1), ("cd", 1)])])

    def test_giving_and_wanting_spots(self):
        # One spot gives to two, one gets of two, and one does both pass on and want.
        net = Net()
        for place, want in (("a", -7), ("b", 2), ("c", 4), ("d", -3), ("e", 4)):
            net.place(place)
            net.want(place, 1, (want, 0))
        loads = []
        for name, amount in (("ab", 4), ("ac", 3), ("bc", 2), ("dc", 1), ("de", 2), ("ce", 2)):
            net.road(name, name[0], name[1])
            loads.append((name, 1, amount, 0))
        rows = self.assert_parted(net, loads, (0, 1))
        self.assertEqual({kind for kind, _, _ in rows}, {"way"})
        total = NOUGHT
        for _, amount, _ in rows:
            total = plus(total, amount)
        self.assertEqual(total, (10, 1))

    def test_stores_and_hours(self):
        net = Net(hours=4)
        net.place("a")
        net.place("b")
        net.want("a", 1, (-3, 0))
        net.want("b", 4, (3, 0))
        net.store("a", None)
        net.road("r", "a", "b", takes=2)
        rows = self.assert_parted(net, [("r", 1, 0, 0), ("r", 2, 3, 0), ("a", 1, 3, 0), ("a", 2, 0, 0), ("a", 3, 0, 0)],
                                  (0, 1))
        self.assertEqual(rows, [("way", (3, 1), [("a", 1), ("r", 2)])])

    def test_nothing(self):
        self.assertEqual(self.assert_parted(Net(), [], (1, 2)), [])

    def test_no_plan(self):
        for loads, fault in (
            (set_row(LOADS, 4, ("mill", 1, 3, 1)), ("sum", "mill", 1)), ([], ("rows",)), (LOADS[::-1], ("rows",)),
            (set_row(LOADS, 1, ("up", 2, 0, 0)), ("floor", "up", 2)),
            (set_row(LOADS, 0, ("up", 1, 7, 1)), ("top", "up", 1)),
        ):
            with self.assertRaises(NoPlan) as caught:
                parted(works(), loads, (0, 1))
            self.assertEqual(caught.exception.fault, fault)
            self.assertEqual(plan_fault(works(), loads, (0, 1)), fault)

    def test_plans_of_atlases(self):
        count = 0
        for seed in range(60):
            net = made_net(seed, hours=1 + seed % 4, places=4, roads=8, below=True, endless=0.1)
            atlas = Atlas(net)
            chance = random.Random(seed)
            for one in atlas.told()[:6]:
                for s in settings(chance, one.s_span.low, one.s_span.high, 1):
                    rows = self.assert_parted(net, one.loads, s)
                    count += sum(kind == "ring" for kind, _, _ in rows)
        self.assertGreater(count, 100)


class JoinedTest(WaysCase):
    def assert_joined(self, net, rows, expected):
        handed = (str(net), copy.deepcopy(rows))
        told = joined(net, rows)
        self.assertEqual((told, str(net), rows), (expected, *handed))
        told.clear()
        self.assertEqual(joined(net, rows), expected)

    def test_amounts_added_up(self):
        rows = [("way", (1, 2), [("ab", 1), ("bc", 1)]), ("ring", (1, 3), [("bc", 1)]), ("way", (7, 1), [("cd", 1)])]
        self.assert_joined(triangle(), rows, [
            ("ab", 1, (1, 2)), ("bc", 1, (5, 6)), ("ca", 1, (0, 1)), ("aa", 1, (0, 1)), ("cd", 1, (7, 1)),
        ])

    def test_a_part_twice_in_a_row(self):
        rows = [("way", (2, 3), [("aa", 1), ("ab", 1), ("aa", 1), ("aa", 1)]), ("way", (1, 1), [("aa", 1)])]
        self.assert_joined(triangle(), rows, [
            ("ab", 1, (2, 3)), ("bc", 1, (0, 1)), ("ca", 1, (0, 1)), ("aa", 1, (3, 1)), ("cd", 1, (0, 1)),
        ])

    def test_rows_that_are_called_anything(self):
        # Whatever their parts' ends: these do not meet, and do not begin where anything is given.
        rows = [("walk", (1, 2), [("cd", 1), ("ab", 1)]), ("", (1, 2), [("cd", 1)])]
        self.assert_joined(triangle(), rows, [
            ("ab", 1, (1, 2)), ("bc", 1, (0, 1)), ("ca", 1, (0, 1)), ("aa", 1, (0, 1)), ("cd", 1, (1, 1)),
        ])

    def test_no_rows(self):
        self.assert_joined(triangle(), [], [(name, hour, (0, 1)) for name, hour in triangle().parts()])
        self.assert_joined(Net(), [], [])

    def test_order_of_the_parts(self):
        for seed in range(10):
            net = made_net(seed, hours=3)
            parts = net.parts()
            rows = [("way", (number + 1, 2), [part]) for number, part in enumerate(parts)][::-1]
            self.assert_joined(net, rows, [(name, hour, times((number + 1, 1), frac(1, 2)))
                                           for number, (name, hour) in enumerate(parts)])


if __name__ == "__main__":
    unittest.main()
