import itertools
import unittest
from fractions import Fraction

from dialweir.errors import BadWord
from dialweir.moves import add, four_at, nought, product, read_move, take, turned, value, written

MOVES = ((0, 0), (3, 0), (0, 2), (-4, 5), (7, -3), (-1000000, 1000000))
SETTINGS = ((0, 1), (1, 1), (-2, 1), (5, 3), (-7, 2))


def pair(number):
    """The told form of one of Python's own fractions, which serve as the measure here."""
    return (number.numerator, number.denominator)


def worth(move, at):
    return move[0] + move[1] * Fraction(*at)


class ReckoningTest(unittest.TestCase):
    def test_add(self):
        self.assertEqual(add((3, 2), (-5, 4)), (-2, 6))
        self.assertEqual(add((3, 2), (0, 0)), (3, 2))

    def test_take(self):
        self.assertEqual(take((3, 2), (-5, 4)), (8, -2))
        self.assertEqual(take((3, 2), (3, 2)), (0, 0))

    def test_turned(self):
        self.assertEqual(turned((3, -2)), (-3, 2))
        self.assertEqual(turned((0, 0)), (0, 0))

    def test_every_pair_at_every_setting(self):
        for m, n, at in itertools.product(MOVES, MOVES, SETTINGS):
            self.assertEqual(worth(add(m, n), at), worth(m, at) + worth(n, at))
            self.assertEqual(worth(take(m, n), at), worth(m, at) - worth(n, at))
            self.assertEqual(worth(turned(m), at), -worth(m, at))

    def test_value(self):
        self.assertEqual(value((3, 2), (5, 1)), (13, 1))
        self.assertEqual(value((3, 2), (1, 4)), (7, 2))
        self.assertEqual(value((1, -2), (1, 2)), (0, 1))
        self.assertEqual(value((-4, 0), (7, 9)), (-4, 1))
        for m, at in itertools.product(MOVES, SETTINGS):
            self.assertEqual(value(m, at), pair(worth(m, at)))

    def test_nought(self):
        self.assertEqual(nought((6, -2)), (3, 1))
        self.assertEqual(nought((6, 4)), (-3, 2))
        self.assertEqual(nought((-1, 3)), (1, 3))
        self.assertEqual(nought((0, -5)), (0, 1))

    def test_nought_with_the_step_nought(self):
        self.assertIsNone(nought((6, 0)))
        self.assertIsNone(nought((0, 0)))


class FourTest(unittest.TestCase):
    def test_product_in_order(self):
        self.assertEqual(product((2, 3), (5, 7)), (10, 15, 14, 21))
        self.assertEqual(product((2, -3), (-5, 7)), (-10, 15, 14, -21))
        self.assertEqual(product((0, 0), (5, 7)), (0, 0, 0, 0))

    def test_four_at(self):
        self.assertEqual(four_at((1, 10, 100, 1000), (2, 1), (3, 1)), (6321, 1))
        self.assertEqual(four_at((1, 10, 100, 1000), (0, 1), (0, 1)), (1, 1))
        self.assertEqual(four_at((0, 1, -1, 6), (1, 2), (-1, 3)), (-1, 6))
        self.assertEqual(four_at((0, 1, 0, 0), (1, 2), (1, 3)), (1, 2))
        self.assertEqual(four_at((0, 0, 1, 0), (1, 2), (1, 3)), (1, 3))

    def test_a_product_is_worth_what_both_are_worth(self):
        for m, n, s, t in itertools.product(MOVES, MOVES, SETTINGS, SETTINGS):
            self.assertEqual(four_at(product(m, n), s, t), pair(worth(m, s) * worth(n, t)))


class WordTest(unittest.TestCase):
    def assert_bad(self, text, letter="s"):
        with self.subTest(text), self.assertRaises(BadWord) as caught:
            read_move(text, letter)
        self.assertEqual(caught.exception.said, text)

    def test_both_ways(self):
        rows = (
            ((3, 0), "s", "3"), ((3, 0), "t", "3"), ((-2, 0), "s", "-2"), ((0, 0), "t", "0"),
            ((3, 2), "s", "3+2s"), ((0, -1), "t", "0-1t"), ((0, 1), "s", "0+1s"), ((-3, -2), "t", "-3-2t"),
            ((-3, 20), "s", "-3+20s"), ((9999999, -9999999), "s", "9999999-9999999s"),
            ((-9999999, 9999999), "t", "-9999999+9999999t"),
        )
        for move, letter, text in rows:
            with self.subTest(text):
                self.assertEqual(written(move, letter), text)
                self.assertEqual(read_move(text, letter), move)

    def test_seven_figures_are_good(self):
        self.assertEqual(read_move("1234567", "s"), (1234567, 0))
        self.assertEqual(read_move("1234567-7654321t", "t"), (1234567, -7654321))

    def test_eight_figures(self):
        for text in ("12345678", "-12345678", "12345678+1s", "1+12345678s", "1-12345678s", "1" * 6000):
            self.assert_bad(text)

    def test_the_other_letter(self):
        self.assert_bad("3+2t", "s")
        self.assert_bad("3+2s", "t")
        self.assert_bad("3+2S", "s")

    def test_needless_signs(self):
        for text in ("3+0s", "3-0s", "0+0s", "03", "00", "-03", "3+02s", "3-02s", "03+2s", "-0", "-0+2s", "+3",
                     "+3+2s", "3++2s", "3+-2s", "3--2s", "3-+2s", "--3", "--3+2s"):
            self.assert_bad(text)

    def test_blanks_and_other_signs(self):
        for text in (" 3", "3 ", "3 +2s", "3+ 2s", "3+2 s", "3+2s ", "3\n", "3+2s\n", "3/2", "3/2+1s", "3.0", "1_0",
                     "3*2s"):
            self.assert_bad(text)

    def test_no_base_or_no_figures(self):
        for text in ("", "s", "+2s", "-2s", "2s", "12s", "-12s", "3s", "3+s", "3-s", "+s", "-", "+", "3+", "3-", "-s",
                     "a", "a+2s", "3+as"):
            self.assert_bad(text)

    def test_more_behind_the_letter(self):
        for text in ("3+2ss", "3+2s1", "3+2s+1", "3+2s+1s", "3+2st", "3+2ts", "3+2", "3+2+1s", "1+2-3s"):
            self.assert_bad(text)


if __name__ == "__main__":
    unittest.main()
