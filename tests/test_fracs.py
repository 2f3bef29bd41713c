import itertools
import unittest
import unittest.mock
from fractions import Fraction

from dialweir.errors import BadSpan, BadWord, NoFraction
from dialweir.fracs import Span, before, frac, less, over, plus, read_frac, shown, times

GREAT = 10 ** 40 + 7
SOME = (
    (0, 1), (1, 1), (-1, 1), (1, 2), (-1, 2), (7, 2), (-9, 4), (5, 6), (-5, 6), (12, 1),
    (GREAT, 3), (-1, GREAT), (GREAT, 10 ** 41),
)


def pair(number):
    """The told form of one of Python's own fractions, which serve as the measure here."""
    return (number.numerator, number.denominator)


class FracTest(unittest.TestCase):
    def test_lowest_terms(self):
        self.assertEqual(frac(7, 2), (7, 2))
        self.assertEqual(frac(6, 4), (3, 2))
        self.assertEqual(frac(-6, 4), (-3, 2))
        self.assertEqual(frac(12, 4), (3, 1))
        self.assertEqual(frac(6 * GREAT, 4 * GREAT), (3, 2))

    def test_under_below_nought(self):
        self.assertEqual(frac(1, -2), (-1, 2))
        self.assertEqual(frac(-6, -4), (3, 2))
        self.assertEqual(frac(4, -2), (-2, 1))

    def test_nought(self):
        self.assertEqual(frac(0), (0, 1))
        self.assertEqual(frac(0, 5), (0, 1))
        self.assertEqual(frac(0, -5), (0, 1))

    def test_under_left_out(self):
        self.assertEqual(frac(7), (7, 1))
        self.assertEqual(frac(-7), (-7, 1))
        self.assertEqual(frac(top=3, under=6), (1, 2))

    def test_no_fraction(self):
        for top in (0, 1, -3):
            self.assertRaises(NoFraction, frac, top, 0)

    def test_a_tuple_of_whole_numbers(self):
        made = frac(4, 2)
        self.assertIs(type(made), tuple)
        self.assertEqual([type(part) for part in made], [int, int])


class ReckoningTest(unittest.TestCase):
    def test_by_hand(self):
        self.assertEqual(plus((1, 6), (1, 3)), (1, 2))
        self.assertEqual(less((1, 6), (2, 3)), (-1, 2))
        self.assertEqual(times((-2, 3), (3, 4)), (-1, 2))
        self.assertEqual(over((1, 2), (-3, 4)), (-2, 3))
        self.assertEqual(plus((1, 2), (-1, 2)), (0, 1))
        self.assertEqual(over((0, 1), (-3, 4)), (0, 1))

    def test_every_pair(self):
        for a, b in itertools.product(SOME, SOME):
            with self.subTest(a=a, b=b):
                first, second = Fraction(*a), Fraction(*b)
                self.assertEqual(plus(a, b), pair(first + second))
                self.assertEqual(less(a, b), pair(first - second))
                self.assertEqual(times(a, b), pair(first * second))
                self.assertIs(before(a, b), first < second)
                if second != 0:
                    self.assertEqual(over(a, b), pair(first / second))

    def test_nothing_is_divided_by_nought(self):
        for a in SOME:
            self.assertRaises(NoFraction, over, a, (0, 1))

    def test_before(self):
        self.assertIs(before((1, 3), (1, 2)), True)
        self.assertIs(before((1, 2), (1, 3)), False)
        self.assertIs(before((1, 2), (1, 2)), False)
        self.assertIs(before((-1, 2), (-1, 3)), True)
        self.assertIs(before((-1, 3), (-1, 2)), False)


class WordTest(unittest.TestCase):
    def assert_bad(self, text):
        with self.subTest(text), self.assertRaises(BadWord) as caught:
            read_frac(text)
        self.assertEqual(caught.exception.said, text)

    def test_there(self):
        self.assertEqual(shown((7, 2)), "7/2")
        self.assertEqual(shown((-7, 2)), "-7/2")
        self.assertEqual(shown((3, 1)), "3")
        self.assertEqual(shown((-3, 1)), "-3")
        self.assertEqual(shown((0, 1)), "0")

    def test_back(self):
        self.assertEqual(read_frac("7/2"), (7, 2))
        self.assertEqual(read_frac("-7/20"), (-7, 20))
        self.assertEqual(read_frac("3"), (3, 1))
        self.assertEqual(read_frac("-10"), (-10, 1))
        self.assertEqual(read_frac("0"), (0, 1))

    def test_there_and_back(self):
        most = 10 ** 30 - 1
        for a in ((1, 2), (-1, 2), (0, 1), (-40, 1), (most, 1), (-most, 1), (1, most), (most, most - 1),
                  (-most, most - 1)):
            self.assertEqual(read_frac(shown(a)), a)

    def test_more_than_thirty_figures(self):
        thirty_one = "1" + "0" * 30
        for text in (thirty_one, "-" + thirty_one, "1/" + thirty_one, thirty_one + "/7", "1" * 6000):
            self.assert_bad(text)

    def test_needless_signs(self):
        for text in ("00", "01", "-01", "01/2", "1/02", "-0", "-0/2", "+1", "+1/2", "1/+2", "--1",
                     " 1", "1 ", "1 /2", "1/ 2", "1\n", "1_0", "1.0", "0x1", "1e3"):
            self.assert_bad(text)

    def test_not_lowest_terms(self):
        for text in ("3/1", "-3/1", "0/1", "2/4", "-6/4", "4/2", "0/5"):
            self.assert_bad(text)

    def test_under_not_above_nought(self):
        for text in ("1/0", "0/0", "1/-2", "-1/-2", "0/-1", "1/-0"):
            self.assert_bad(text)

    def test_no_figures(self):
        for text in ("", "-", "/", "1/", "/2", "-/2", "1/-", "a", "1/b", "one", "1//2", "1/2/3", "1/2/"):
            self.assert_bad(text)


class SpanTest(unittest.TestCase):
    def test_fields(self):
        span = Span((1, 2), (3, 1))
        self.assertEqual((span.low, span.high), ((1, 2), (3, 1)))
        named = Span(high=(3, 1), low=(-5, 3))
        self.assertEqual((named.low, named.high), ((-5, 3), (3, 1)))

    def test_bad_span(self):
        self.assertRaises(BadSpan, Span, (1, 2), (1, 3))
        self.assertRaises(BadSpan, Span, (0, 1), (-1, 100))

    def test_holds(self):
        span = Span((1, 2), (3, 1))
        for at in ((1, 2), (2, 1), (3, 1)):
            self.assertIs(span.holds(at), True)
        for at in ((1, 3), (-1, 2), (7, 2)):
            self.assertIs(span.holds(at), False)

    def test_meet(self):
        rows = (
            (Span((0, 1), (2, 1)), Span((1, 1), (3, 1)), Span((1, 1), (2, 1))),
            (Span((0, 1), (1, 2)), Span((1, 2), (3, 1)), Span((1, 2), (1, 2))),
            (Span((0, 1), (5, 1)), Span((1, 2), (3, 1)), Span((1, 2), (3, 1))),
            (Span((0, 1), (5, 1)), Span((0, 1), (3, 1)), Span((0, 1), (3, 1))),
            (Span((0, 1), (5, 1)), Span((2, 1), (5, 1)), Span((2, 1), (5, 1))),
            (Span((0, 1), (1, 1)), Span((0, 1), (1, 1)), Span((0, 1), (1, 1))),
            (Span((0, 1), (1, 2)), Span((2, 3), (3, 1)), None),
            (Span((0, 1), (0, 1)), Span((1, 1), (1, 1)), None),
        )
        for one, other, both in rows:
            self.assertEqual(one.meet(other), both)
            self.assertEqual(other.meet(one), both)

    def test_meet_changes_neither(self):
        one, other = Span((0, 1), (2, 1)), Span((1, 1), (3, 1))
        one.meet(other)
        self.assertEqual((str(one), str(other)), ("0..2", "1..3"))

    def test_middle(self):
        self.assertEqual(Span((0, 1), (3, 1)).middle(), (3, 2))
        self.assertEqual(Span((-1, 2), (1, 2)).middle(), (0, 1))
        self.assertEqual(Span((1, 3), (1, 2)).middle(), (5, 12))
        self.assertEqual(Span((7, 2), (7, 2)).middle(), (7, 2))

    def test_single(self):
        self.assertIs(Span((1, 2), (1, 2)).single(), True)
        self.assertIs(Span((1, 2), (3, 1)).single(), False)

    def test_same_as_a_span_alone(self):
        span = Span((1, 2), (3, 1))
        self.assertTrue(span == Span((1, 2), (3, 1)))
        self.assertFalse(span != Span((1, 2), (3, 1)))
        for other in (Span((1, 2), (2, 1)), Span((0, 1), (3, 1)), ((1, 2), (3, 1)), "1/2..3", None, 0,
                      unittest.mock.ANY):
            self.assertFalse(span == other)
            self.assertTrue(span != other)

    def test_str_and_repr(self):
        self.assertEqual(str(Span((1, 2), (3, 1))), "1/2..3")
        self.assertEqual(repr(Span((1, 2), (3, 1))), "Span((1, 2), (3, 1))")
        self.assertEqual(str(Span((-7, 3), (0, 1))), "-7/3..0")
        self.assertEqual(repr(Span((-7, 3), (0, 1))), "Span((-7, 3), (0, 1))")


if __name__ == "__main__":
    unittest.main()
