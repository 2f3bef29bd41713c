"""What bars loads of plain nets, and rings below nought."""

import copy
import random
import unittest

from dialweir.solve import bar, ring_at
from plain_nets import S_BOX, T_BOX, plain_net, set_excess, some_ring_falls, some_set_bars

FREE = (0, 0)
SETTINGS = ((-3, 1), (4, 1), (0, 1), (1, 2), (-7, 3), (19, 5))


class BarTest(unittest.TestCase):
    def assert_bar(self, needs, arcs, s):
        """None where no set bars, else a set that does; the lists that are handed in stay."""
        handed = (copy.deepcopy(needs), copy.deepcopy(arcs))
        told = bar(needs, arcs, s)
        self.assertEqual((needs, arcs), handed)
        if told is None:
            self.assertFalse(some_set_bars(needs, arcs, s))
            return None
        side, numbers = told
        self.assertIn(side, ("in", "out"))
        self.assertIs(type(numbers), list)
        self.assertEqual(numbers, sorted(set(numbers)))
        self.assertLessEqual(set(numbers), set(range(len(needs))))
        self.assertGreater(set_excess(needs, arcs, side, numbers, s), 0)
        again = bar(needs, arcs, s)
        numbers.clear()
        self.assertEqual(bar(needs, arcs, s), again)
        return again

    def test_by_hand(self):
        arcs = [(0, 1, (3, 0), FREE)]
        self.assertIsNone(self.assert_bar([(-3, 0), (3, 0)], arcs, (0, 1)))
        self.assertEqual(self.assert_bar([(-4, 0), (4, 0)], arcs, (0, 1)), ("in", [1]))
        # Nothing leads from 1 to 0.
        self.assertEqual(self.assert_bar([(1, 0), (-1, 0)], arcs, (0, 1)), ("in", [0]))
        self.assertIsNone(self.assert_bar([(0, 0), (0, 0)], arcs, (0, 1)))

    def test_needs_that_do_not_come_to_nought(self):
        arcs = [(0, 1, None, FREE), (1, 0, None, FREE)]
        self.assertEqual(self.assert_bar([(-3, 0), (4, 0)], arcs, (0, 1)), ("in", [0, 1]))
        self.assertEqual(self.assert_bar([(-4, 0), (3, 0)], arcs, (0, 1)), ("out", [0, 1]))
        self.assertEqual(self.assert_bar([(2, 1)], [], (0, 1)), ("in", [0]))
        self.assertEqual(self.assert_bar([(2, 1)], [], (-3, 1)), ("out", [0]))
        self.assertIsNone(self.assert_bar([(2, 1)], [], (-2, 1)))

    def test_at_fractions(self):
        arcs = [(0, 1, (1, 1), FREE)]
        needs = [(0, -3), (0, 3)]
        self.assertIsNone(self.assert_bar(needs, arcs, (1, 2)))
        self.assertEqual(self.assert_bar(needs, arcs, (51, 100)), ("in", [1]))
        self.assertIsNone(self.assert_bar(needs, arcs, (49, 100)))
        self.assertIsNone(self.assert_bar([(-1, 2), (1, -2)], arcs, (1, 2)))
        self.assertEqual(self.assert_bar([(-1, 2), (1, -2)], arcs, (2, 3)), ("in", [0]))

    def test_a_way_around(self):
        arcs = [(0, 2, (2, 0), FREE), (0, 1, (2, 0), FREE), (1, 2, (1, 0), FREE), (2, 2, (9, 0), FREE)]
        self.assertIsNone(self.assert_bar([(-3, 0), (0, 0), (3, 0)], arcs, (0, 1)))
        self.assertEqual(self.assert_bar([(-4, 0), (0, 0), (4, 0)], arcs, (0, 1)), ("in", [2]))

    def test_loads_that_have_to_move_over(self):
        # The first way to 3 that is found has to make room for 2.
        arcs = [(0, 2, (1, 0), FREE), (0, 3, (1, 0), FREE), (1, 2, (0, 0), FREE), (1, 3, (1, 0), FREE)]
        self.assertIsNone(self.assert_bar([(-1, 0), (-1, 0), (1, 0), (1, 0)], arcs, (0, 1)))

    def test_rooms_without_end_and_rooms_that_are_nought(self):
        arcs = [(0, 1, None, FREE), (1, 2, (3, 1), FREE), (2, 2, None, FREE)]
        needs = [(-3, -1), (0, 0), (3, 1)]
        for s in SETTINGS:
            self.assertIsNone(self.assert_bar(needs, arcs, s))
        self.assertEqual(self.assert_bar([(-4, -1), (0, 0), (4, 1)], arcs, (-3, 1)), ("in", [2]))

    def test_nothing(self):
        self.assertIsNone(self.assert_bar([], [], (1, 3)))
        self.assertIsNone(self.assert_bar([FREE, FREE], [], (1, 3)))

    def test_nets_with_loads(self):
        for seed in range(150):
            needs, arcs, _ = plain_net(seed, nodes=6, arcs=12)
            for s in SETTINGS:
                self.assertIsNone(self.assert_bar(needs, arcs, s), (seed, s))

    def test_all_sets_of_small_nets(self):
        barred = 0
        for seed in range(300):
            needs, arcs, _ = plain_net(seed, nodes=5, arcs=9, spoiled=True)
            for s in SETTINGS:
                barred += self.assert_bar(needs, arcs, s) is not None
        self.assertGreater(barred, 300)

    def test_great_numbers(self):
        million = 1000000
        arcs = [(0, 1, (million, -1), FREE), (1, 2, (million, 1), FREE)]
        needs = [(-million, 1), (0, 0), (million, -1)]
        self.assertIsNone(self.assert_bar(needs, arcs, (million, 1)))
        self.assertEqual(self.assert_bar(needs, arcs, (-1, million)), ("in", [2]))
        self.assertIsNone(self.assert_bar(needs, arcs, (1, million)))


class RingAtTest(unittest.TestCase):
    def assert_ring(self, count, arcs, t):
        """None where no ring is below nought, else one that closes and is."""
        handed = copy.deepcopy(arcs)
        told = ring_at(count, arcs, t)
        self.assertEqual(arcs, handed)
        self.assertEqual(told is not None, some_ring_falls(count, arcs, t))
        if told is None:
            return None
        self.assertIs(type(told), list)
        self.assertTrue(told)
        total = 0
        for number, behind in zip(told, told[1:] + told[:1]):
            _, head, room, price = arcs[number]
            self.assertIsNone(room)
            self.assertEqual(head, arcs[behind][0])
            total += price[0] * t[1] + price[1] * t[0]
        self.assertLess(total, 0)
        again = ring_at(count, arcs, t)
        told.clear()
        self.assertEqual(ring_at(count, arcs, t), again)
        return again

    def test_by_hand(self):
        arcs = [(0, 1, None, (2, 0)), (1, 2, None, (1, 0)), (2, 0, None, (-4, 0)), (2, 1, None, (5, 0))]
        self.assertIn(self.assert_ring(3, arcs, (0, 1)), ([0, 1, 2], [1, 2, 0], [2, 0, 1]))

    def test_just_nought(self):
        arcs = [(0, 1, None, (2, 0)), (1, 0, None, (-2, 0)), (0, 0, None, (0, 0))]
        self.assertIsNone(self.assert_ring(2, arcs, (0, 1)))
        arcs = [(0, 1, None, (2, 1)), (1, 0, None, (-2, -3))]
        self.assertIsNone(self.assert_ring(2, arcs, (0, 1)))
        self.assertIsNone(self.assert_ring(2, arcs, (-1, 9)))
        self.assertIsNotNone(self.assert_ring(2, arcs, (1, 1000000)))

    def test_arcs_without_end_alone(self):
        arcs = [(0, 1, (1000, 0), (-9, 0)), (1, 0, None, (1, 0)), (0, 0, (5, 0), (-3, 0))]
        self.assertIsNone(self.assert_ring(2, arcs, (0, 1)))
        self.assertIsNotNone(self.assert_ring(2, arcs + [(0, 1, None, (-9, 0))], (0, 1)))

    def test_from_a_node_to_itself(self):
        arcs = [(0, 1, None, (7, 0)), (1, 1, None, (1, -1))]
        self.assertIsNone(self.assert_ring(2, arcs, (1, 1)))
        self.assertEqual(self.assert_ring(2, arcs, (3, 2)), [1])

    def test_beside_one_another(self):
        arcs = [(0, 1, None, (3, 0)), (0, 1, None, (1, 0)), (1, 0, None, (-2, 0)), (0, 1, None, (2, 0))]
        self.assertIn(self.assert_ring(2, arcs, (0, 1)), ([1, 2], [2, 1]))

    def test_a_ring_behind_a_way(self):
        # 4 -> 3 -> 2 leads to the ring of 0, 1 and 2, and on from it.
        arcs = [(4, 3, None, (-5, 0)), (3, 2, None, (-5, 0)), (2, 0, None, (1, 0)), (0, 1, None, (1, 0)),
                (1, 2, None, (-3, 0)), (2, 5, None, (-9, 0)), (5, 6, None, (-9, 0))]
        self.assertEqual(sorted(self.assert_ring(7, arcs, (0, 1))), [2, 3, 4])

    def test_nothing(self):
        self.assertIsNone(self.assert_ring(0, [], (0, 1)))
        self.assertIsNone(self.assert_ring(3, [], (0, 1)))

    def test_all_rings_of_small_nets(self):
        found = 0
        for seed in range(300):
            chance = random.Random(seed)
            count = chance.randint(1, 6)
            arcs = []
            for _ in range(chance.randint(1, 12)):
                room = None if chance.random() < 0.8 else (3, 0)
                price = (chance.randint(-2, 6), chance.randint(-2, 2))
                arcs.append((chance.randrange(count), chance.randrange(count), room, price))
            for t in ((T_BOX[0], 1), (T_BOX[1], 1), (1, 2), (-1, 3), (0, 1)):
                found += self.assert_ring(count, arcs, t) is not None
        self.assertTrue(200 < found < 1300, found)

    def test_nets_that_have_a_bottom(self):
        for seed in range(100):
            needs, arcs, _ = plain_net(seed, endless=0.6)
            for t in T_BOX:
                self.assertIsNone(self.assert_ring(len(needs), arcs, (t, 1)))
        self.assertEqual(S_BOX, (-3, 4))


if __name__ == "__main__":
    unittest.main()
