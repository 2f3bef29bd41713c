"""What the tests of atlases share: stretches, oblongs and lines held against their net."""

import unittest

from dialweir.fracs import Span, before, frac, less, over, plus, times
from dialweir.looker import cost, oblong_fault, prices_fault, ring_price, set_lack
from dialweir.moves import value

NOUGHT = (0, 1)
HALF = (1, 2)


def between(low, high):
    return times(plus(low, high), HALF)


def rate(one, other):
    """By how much the worth grows from one point to the other for each step of the dial."""
    return over(less(other[1], one[1]), less(other[0], one[0]))


class AtlasCase(unittest.TestCase):
    def assert_stretch(self, told, box, lack):
        """Point [15]: the stretch's ends have papers just where the box goes on, or papers bar all of the box."""
        self.assertIs(type(told), tuple)
        span, low, high = told
        begin, end = frac(box[0]), frac(box[1])
        if span is None:
            self.assertIsNotNone(low)
            self.assert_all_barred(begin, end, [lack(paper) for paper in (low, high) if paper is not None])
            return
        self.assertIs(type(span), Span)
        self.assertFalse(before(span.low, begin) or before(end, span.high))
        self.assertEqual((low is None, high is None), (span.low == begin, span.high == end))
        for paper, at, sign in ((low, span.low, -1), (high, span.high, 1)):
            if paper is not None:
                told_lack = lack(paper)
                self.assertEqual(value(told_lack, at), NOUGHT)
                # Above nought on the far side.
                self.assertGreater(told_lack[1] * sign, 0)

    def assert_all_barred(self, begin, end, lacks):
        """At each setting one of the lacks is above nought: both are straight, so these settings show it."""
        at = [begin, end] + [frac(-base, step) for base, step in lacks if step != 0]
        for setting in [one for one in at if not before(one, begin) and not before(end, one)]:
            self.assertTrue(any(before(NOUGHT, value(told, setting)) for told in lacks), (setting, lacks))

    def assert_reach(self, net, told):
        self.assert_stretch(told, net.s_box, lambda paper: set_lack(net, paper))

    def assert_bottom(self, net, told):
        def lack(ring):
            base, step = ring_price(net, ring)
            return (-base, -step)

        self.assert_stretch(told, net.t_box, lack)

    def assert_oblong(self, net, one, s_span, t_span):
        """It is within the stretches, and holds at its corners and at some settings within it."""
        for span, whole in ((one.s_span, s_span), (one.t_span, t_span)):
            self.assertFalse(before(span.low, whole.low) or before(whole.high, span.high))
        self.assertIsNone(oblong_fault(net, one))
        self.assertEqual([type(number) for number in one.four], [int] * 4)
        share = frac(1, 7)
        for s in (one.s_span.middle(), plus(one.s_span.low, times(share, less(one.s_span.high, one.s_span.low)))):
            t = plus(one.t_span.low, times(share, less(one.t_span.high, one.t_span.low)))
            self.assertIsNone(prices_fault(net, one.loads, one.prices, s, t))
            self.assertEqual(cost(net, one.loads, s, t), one.worth_at(s, t))

    def assert_covered(self, oblongs, s_span, t_span):
        """At each end of an oblong, and between each two of them, all settings of the other dial are held, too."""
        ends = {one.s_span.low for one in oblongs} | {one.s_span.high for one in oblongs} | {s_span.low, s_span.high}
        ordered = sorted(ends, key=lambda at: at[0] / at[1])
        for s in ordered + [between(low, high) for low, high in zip(ordered, ordered[1:])]:
            spans = [one.t_span for one in oblongs if one.s_span.holds(s)]
            reached = t_span.low
            while before(reached, t_span.high):
                further = [span.high for span in spans if span.holds(reached) and before(reached, span.high)]
                self.assertTrue(further, (s, reached))
                reached = further[0]
            self.assertTrue(any(span.holds(t_span.low) for span in spans), s)
            self.assertTrue(any(span.holds(t_span.high) for span in spans), s)

    def assert_line(self, points, span, worth, sign):
        """From end to end, a bend at each point between, upward (sign 1) or downward (-1) alone, as `worth` tells."""
        self.assertIs(type(points), list)
        self.assertEqual((points[0][0], points[-1][0]), (span.low, span.high))
        self.assertEqual(len(points) == 1, span.low == span.high)
        for at, told in points:
            self.assertEqual(worth(at), told)
        rates = []
        for one, other in zip(points, points[1:]):
            self.assertTrue(before(one[0], other[0]))
            self.assertEqual(worth(between(one[0], other[0])), between(one[1], other[1]))
            rates.append(rate(one, other))
        for one, other in zip(rates, rates[1:]):
            self.assertGreater(sign * less(other, one)[0], 0)
