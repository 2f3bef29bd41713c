"""Oblongs: their fields, their settings, their worths, and which of them are the same."""

import unittest

from dialweir.atlas import Oblong
from dialweir.fracs import Span

LOADS = [("r", 1, 2, 0), ("r", 2, 3, -1)]
PRICES = [("a", 1, "door", 0, 0), ("a", 1, "hall", 1, 2)]


def made(s=((1, 2), (3, 1)), t=((0, 1), (1, 1)), loads=LOADS, prices=PRICES, four=(1, 2, 3, 4)):
    return Oblong(Span(*s), Span(*t), loads, prices, four)


class OblongTest(unittest.TestCase):
    def test_fields(self):
        told = made()
        self.assertEqual((told.s_span, told.t_span), (Span((1, 2), (3, 1)), Span((0, 1), (1, 1))))
        self.assertEqual((told.loads, told.prices, told.four), (LOADS, PRICES, (1, 2, 3, 4)))

    def test_lists_of_its_own(self):
        loads, prices = list(LOADS), list(PRICES)
        told = made(loads=loads, prices=prices)
        loads.clear()
        prices.append(("a", 2, "door", 0, 0))
        self.assertEqual((told.loads, told.prices), (LOADS, PRICES))
        told.loads.clear()
        told.prices.clear()
        self.assertEqual((loads, len(prices)), ([], 3))
        self.assertEqual((type(told.loads), type(told.prices)), (list, list))

    def test_holds(self):
        told = made()
        for s, t, expected in (
            ((1, 2), (0, 1), True), ((3, 1), (1, 1), True), ((1, 2), (1, 1), True), ((2, 1), (1, 3), True),
            ((49, 100), (0, 1), False), ((301, 100), (0, 1), False), ((1, 1), (-1, 100), False),
            ((1, 1), (101, 100), False), ((0, 1), (2, 1), False),
        ):
            self.assertIs(told.holds(s, t), expected)
        self.assertIs(made(s=((1, 2), (1, 2))).holds((1, 2), (0, 1)), True)
        self.assertIs(made(s=((1, 2), (1, 2))).holds((51, 100), (0, 1)), False)

    def test_worth_at(self):
        told = made(four=(7, -2, 3, 5))
        self.assertEqual(told.worth_at((0, 1), (0, 1)), (7, 1))
        self.assertEqual(told.worth_at((2, 1), (3, 1)), (7 - 4 + 9 + 30, 1))
        # 7 - 2/2 + 3/3 + 5/6
        self.assertEqual(told.worth_at((1, 2), (1, 3)), (47, 6))

    def test_the_same(self):
        told = made()
        self.assertTrue(told == made())
        self.assertFalse(told != made())
        for other in (
            made(s=((1, 2), (2, 1))), made(s=((1, 3), (3, 1))), made(t=((0, 1), (2, 1))), made(t=((1, 2), (1, 1))),
            made(loads=LOADS[:1]), made(loads=LOADS[::-1]), made(loads=[LOADS[0], ("r", 2, 3, 0)]), made(loads=[]),
            made(prices=PRICES[1:]), made(prices=[PRICES[0], ("a", 1, "hall", 1, 3)]), made(four=(1, 2, 3, 5)),
            made(four=(0, 2, 3, 4)),
        ):
            self.assertFalse(told == other)
            self.assertFalse(other == told)
            self.assertTrue(told != other)

    def test_other_things(self):
        told = made()
        for other in (None, 0, "Oblong(1/2..3, 0..1)", (), told.s_span, LOADS, vars(told)):
            self.assertFalse(told == other)
            self.assertTrue(told != other)

    def test_repr(self):
        self.assertEqual(repr(made()), "Oblong(1/2..3, 0..1)")
        self.assertEqual(repr(made(s=((-7, 3), (-7, 3)), t=((-1, 1), (5, 2)))), "Oblong(-7/3..-7/3, -1..5/2)")


if __name__ == "__main__":
    unittest.main()
