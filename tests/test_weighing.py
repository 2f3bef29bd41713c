"""Moves weighed at a setting, and just beside it."""

import random
import unittest

from dialweir.weighing import weighed, weighed_loads, weighed_prices

LITTLE = 10 ** 15


def sign(number):
    return (number > 0) - (number < 0)


class WeighedTest(unittest.TestCase):
    def test_at_a_setting(self):
        self.assertEqual(weighed([(1, 2), None, (0, 0), (-3, 1)], (1, 2), 0), [4, None, 0, -5])
        self.assertEqual(weighed([], (1, 2), 1), [])

    def test_sums_stand_as_the_worths_do(self):
        for seed in range(200):
            chance = random.Random(seed)
            moves = [(chance.randint(-3, 3), chance.randint(-9, 9)) for _ in range(chance.randint(1, 8))]
            at = (chance.randint(-4, 4), chance.choice((1, 2, 3)))
            for ahead in (0, 1, -1):
                weights = weighed(moves, at, ahead)
                # A setting so near that nothing else comes between.
                near = (at[0] * LITTLE + ahead, at[1] * LITTLE)
                for _ in range(40):
                    by = [chance.randint(-3, 3) for _ in moves]
                    base = sum(count * move[0] for count, move in zip(by, moves))
                    step = sum(count * move[1] for count, move in zip(by, moves))
                    total = sum(count * weight for count, weight in zip(by, weights))
                    self.assertEqual(sign(total), sign(base * near[1] + step * near[0]))

    def test_loads_and_prices(self):
        arcs = [(0, 1, (1, 2), (5, 6)), (0, 1, None, (7, -1))]
        needs = [(-3, 4)]
        needs_told, rooms = weighed_loads(needs, arcs, (1, 2), 0)
        self.assertEqual((needs_told, rooms), ([-2], [4, None]))
        self.assertEqual(weighed_prices(arcs, (1, 2), 0), [16, 13])
        self.assertEqual((needs, arcs[1]), ([(-3, 4)], (0, 1, None, (7, -1))))


if __name__ == "__main__":
    unittest.main()
