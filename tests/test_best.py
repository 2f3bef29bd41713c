"""The cheapest loads of plain nets, with heights that show it."""

import copy
import unittest

from dialweir.solve import bar, best, ring_at
from plain_nets import S_BOX, T_BOX, plain_net, weight

LITTLE = 10 ** 12
FREE = (0, 0)
AHEADS = ((False, False), (True, False), (False, True), (True, True))
S_SETTINGS = ((-3, 1), (0, 1), (1, 2), (-7, 3), (19, 5), (4, 1))
T_SETTINGS = ((-2, 1), (1, 1), (1, 3), (-5, 4), (3, 1))


def just_beyond(at):
    """The setting, one a little greater, and one between."""
    return [(at[0] * LITTLE + by, at[1] * LITTLE) for by in (0, 1, 2)]


def cost_at(arcs, loads, s, t):
    return sum(weight(load, s) * weight(price, t) for (_, _, _, price), load in zip(arcs, loads))


class BestCase(unittest.TestCase):
    def assert_loads(self, needs, arcs, loads, s):
        """No load below nought or above its room, and each need met."""
        lacks = [weight(need, s) for need in needs]
        for (tail, head, room, _), load in zip(arcs, loads):
            amount = weight(load, s)
            self.assertGreaterEqual(amount, 0)
            if room is not None:
                self.assertLessEqual(amount, weight(room, s))
            lacks[head] -= amount
            lacks[tail] += amount
        self.assertEqual(lacks, [0] * len(needs))

    def assert_heights(self, arcs, loads, heights, s, t):
        for (tail, head, room, price), load in zip(arcs, loads):
            amount = weight(load, s)
            most = None if room is None else weight(room, s)
            loss = weight(price, t) + weight(heights[tail], t) - weight(heights[head], t)
            if amount > 0 and (most is None or amount < most):
                self.assertEqual(loss, 0)
            if amount == 0 and most != 0:
                self.assertGreaterEqual(loss, 0)
            if amount == most and most != 0:
                self.assertLessEqual(loss, 0)

    def assert_moves(self, told, count):
        self.assertIs(type(told), list)
        self.assertEqual(len(told), count)
        for move in told:
            self.assertEqual([type(part) for part in (move, *move)], [tuple, int, int])

    def assert_best(self, needs, arcs, s, t, *, s_ahead=False, t_ahead=False):
        """The loads and the heights are as they are to be, at s and t and, with ahead, a little beyond."""
        handed = (copy.deepcopy(needs), copy.deepcopy(arcs))
        loads, heights = best(needs, arcs, s, t, s_ahead=s_ahead, t_ahead=t_ahead)
        self.assertEqual((needs, arcs), handed)
        self.assert_moves(loads, len(arcs))
        self.assert_moves(heights, len(needs))
        for at in just_beyond(s) if s_ahead else [s]:
            self.assert_loads(needs, arcs, loads, at)
            for price_at in just_beyond(t) if t_ahead else [t]:
                self.assert_heights(arcs, loads, heights, at, price_at)
        kept = (list(loads), list(heights))
        loads.clear()
        heights.clear()
        self.assertEqual(best(needs, arcs, s, t, s_ahead=s_ahead, t_ahead=t_ahead), kept)
        return kept

    def assert_all_aheads(self, needs, arcs, s, t, told):
        """With and without ahead, as far as the box goes; the cost is that of the told loads."""
        for s_ahead, t_ahead in AHEADS:
            if (s_ahead and s[0] >= S_BOX[1] * s[1]) or (t_ahead and t[0] >= T_BOX[1] * t[1]):
                continue
            loads, _ = self.assert_best(needs, arcs, s, t, s_ahead=s_ahead, t_ahead=t_ahead)
            self.assertEqual(cost_at(arcs, loads, s, t), cost_at(arcs, told, s, t))


class HandTest(BestCase):
    def test_the_cheaper_of_two(self):
        arcs = [(0, 1, (5, 0), (3, 0)), (0, 1, (4, 1), (2, 0))]
        needs = [(-7, -1), (7, 1)]
        for s in ((0, 1), (1, 1), (3, 2)):
            self.assert_all_aheads(needs, arcs, s, (0, 1), [(3, 0), (4, 1)])
        self.assertEqual(best(needs, arcs, (0, 1), (0, 1), s_ahead=True)[0], [(3, 0), (4, 1)])

    def test_prices_that_are_the_same(self):
        arcs = [(0, 1, (5, 0), (3, 1)), (0, 1, (5, 0), (3, 1)), (0, 1, None, (3, 1))]
        for need in (0, 1, 5, 7, 10, 11):
            needs = [(-need, 0), (need, 0)]
            self.assert_all_aheads(needs, arcs, (0, 1), (1, 2), [(0, 0), (0, 0), (need, 0)])

    def test_prices_that_fall(self):
        arcs = [(0, 1, (5, 0), (3, -1)), (0, 1, None, (2, 0)), (0, 1, (2, 0), (9, -9))]
        needs = [(-6, 0), (6, 0)]
        self.assert_all_aheads(needs, arcs, (0, 1), (0, 1), [(0, 0), (6, 0), (0, 0)])
        self.assert_all_aheads(needs, arcs, (0, 1), (1, 1), [(4, 0), (0, 0), (2, 0)])
        self.assert_all_aheads(needs, arcs, (0, 1), (2, 1), [(4, 0), (0, 0), (2, 0)])
        # At t = 1 the first two cost the same; ahead of it the first one is the cheaper.
        self.assertEqual(best(needs, arcs, (0, 1), (1, 1), t_ahead=True)[0], [(4, 0), (0, 0), (2, 0)])

    def test_rings_of_arcs_with_an_end(self):
        arcs = [(0, 1, (3, 1), (-5, 0)), (1, 0, (4, 0), (2, 0)), (1, 1, (2, 2), (-1, 0)), (0, 0, (5, 0), (1, 0))]
        needs = [(0, 0), (0, 0)]
        self.assert_all_aheads(needs, arcs, (0, 1), (0, 1), [(3, 0), (3, 0), (2, 0), (0, 0)])
        self.assert_all_aheads(needs, arcs, (1, 1), (0, 1), [(4, 0), (4, 0), (4, 0), (0, 0)])
        self.assert_all_aheads(needs, arcs, (2, 1), (0, 1), [(4, 0), (4, 0), (6, 0), (0, 0)])

    def test_rooms_that_open(self):
        # At s = 0 the first arc has no room; ahead of it it has some.
        arcs = [(0, 1, (0, 1), (1, 0)), (0, 1, None, (2, 0))]
        needs = [(-3, 0), (3, 0)]
        self.assert_all_aheads(needs, arcs, (0, 1), (0, 1), [(0, 0), (3, 0)])
        self.assertEqual(best(needs, arcs, (0, 1), (0, 1), s_ahead=True)[0], [(0, 1), (3, -1)])

    def test_needs_met_at_one_setting_alone(self):
        arcs = [(0, 1, None, (1, 0)), (1, 2, (9, 0), (1, 0))]
        needs = [(-2, 0), (1, 0), (0, 2)]
        loads, _ = self.assert_best(needs, arcs, (1, 2), (0, 1), t_ahead=True)
        self.assertEqual([weight(load, (1, 2)) for load in loads], [4, 2])

    def test_parts_that_do_not_touch(self):
        arcs = [(0, 1, (3, 0), (1, 1)), (2, 3, None, (4, -1)), (3, 2, (1, 0), (-9, 0))]
        needs = [(-2, 0), (2, 0), (-1, 0), (1, 0), (0, 0)]
        self.assert_all_aheads(needs, arcs, (1, 2), (1, 3), [(2, 0), (2, 0), (1, 0)])

    def test_nothing(self):
        self.assertEqual(best([], [], (0, 1), (0, 1), s_ahead=True), ([], []))
        self.assert_best([(0, 0), (0, 0)], [], (1, 2), (1, 3), s_ahead=True, t_ahead=True)


class MadeTest(BestCase):
    def test_all_settings(self):
        for seed in range(60):
            needs, arcs, made = plain_net(seed, nodes=6, arcs=12)
            for s in S_SETTINGS:
                for t in T_SETTINGS:
                    self.assertIsNone(bar(needs, arcs, s))
                    self.assertIsNone(ring_at(len(needs), arcs, t))
                    for s_ahead, t_ahead in AHEADS:
                        if (s_ahead and s == (4, 1)) or (t_ahead and t == (3, 1)):
                            continue
                        loads, _ = self.assert_best(needs, arcs, s, t, s_ahead=s_ahead, t_ahead=t_ahead)
                        # Never dearer than the loads from which the needs were made.
                        self.assertLessEqual(cost_at(arcs, loads, s, t), cost_at(arcs, made, s, t))

    def test_many_arcs(self):
        for seed in range(12):
            needs, arcs, made = plain_net(seed, nodes=40, arcs=96, top=1000)
            for s, t in ((S_SETTINGS[2], T_SETTINGS[2]), (S_SETTINGS[0], T_SETTINGS[0])):
                loads, _ = self.assert_best(needs, arcs, s, t, s_ahead=True, t_ahead=True)
                self.assertLessEqual(cost_at(arcs, loads, s, t), cost_at(arcs, made, s, t))

    def test_many_loads_alike(self):
        for seed in range(30):
            needs, arcs, made = plain_net(seed, nodes=8, arcs=40, top=1)
            for s_ahead, t_ahead in AHEADS:
                loads, _ = self.assert_best(needs, arcs, (0, 1), (0, 1), s_ahead=s_ahead, t_ahead=t_ahead)
                self.assertLessEqual(cost_at(arcs, loads, (0, 1), (0, 1)), cost_at(arcs, made, (0, 1), (0, 1)))

    def test_whole_at_whole_settings(self):
        for seed in range(40):
            needs, arcs, _ = plain_net(seed, nodes=5, arcs=9)
            loads, heights = best(needs, arcs, (2, 1), (1, 1))
            for move in loads + heights:
                self.assertIs(type(move[0] + move[1]), int)

    def test_great_numbers(self):
        million = 1000000
        arcs = [(0, 1, (million, -1), (million, -1)), (1, 2, (million, 1), (million, 1)), (0, 2, None, (3, million)),
                (0, 2, (1, 0), (-million, million))]
        needs = [(-million, 1), (0, 0), (million, -1)]
        for s in ((million, 1), (1, million), (999999, 7)):
            for t in ((million, 1), (2, 3), (999999, 1000000)):
                self.assert_best(needs, arcs, s, t)
                self.assert_best(needs, arcs, s, t, t_ahead=True)


if __name__ == "__main__":
    unittest.main()
