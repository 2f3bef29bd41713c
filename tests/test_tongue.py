import random
import unittest

from common import NetCase, VALLEY, full_net, valley
from dialweir.errors import BadRow
from dialweir.net import Net
from dialweir.tongue import read_net
from told_rows import BAD_FORMS, OTHERS, PLAIN, REFUSED, REFUSED_OTHERS

HEADS = ["hours 3", "s 0 4", "t -2 2"]


def text(*rows):
    return "\n".join(rows)


class GoodTextTest(unittest.TestCase):
    def test_read_back(self):
        for net in (Net(), Net(hours=6, s_box=(-3, 4), t_box=(5, 5)), valley(), full_net()):
            read = read_net(str(net))
            self.assertIs(type(read), Net)
            self.assertEqual(str(read), str(net))
            self.assertTrue(read == net)
        self.assertEqual(str(read_net(VALLEY)), VALLEY)

    def test_fields(self):
        net = read_net("hours 2\ns -5 -1\nt 0 1000000")
        self.assertEqual((net.hours, net.s_box, net.t_box), (2, (-5, -1), (0, 1000000)))
        self.assertEqual([type(net.s_box), type(net.t_box)], [tuple, tuple])

    def test_random_nets_read_back(self):
        chance = random.Random(5)
        for _ in range(200):
            net = any_net(chance)
            self.assertEqual(str(read_net(str(net))), str(net))

    def test_other_orders(self):
        mixed = text(*HEADS, "place a", "place b", "road go a b 0 0 open:0", "want b 2 1", "place c", "want a 3 -1",
                     "store b open 2", "road to b c 0 0 1:1", "want a 1 -1", "through b 5", "through a 7")
        told = text(*HEADS, "place a", "through a 7", "want a 1 -1", "want a 3 -1", "place b", "through b 5",
                    "store b open 2", "want b 2 1", "place c", "road go a b 0 0 open:0", "road to b c 0 0 1:1")
        self.assertEqual(str(read_net(mixed)), told)

    def test_told_again(self):
        again = text(*HEADS, "place a", "want a 1 3", "through a 3", "store a 3 3", "want a 1 4+1s", "through a 4",
                     "store a 4 4")
        self.assertEqual(str(read_net(again)), text(*HEADS, "place a", "through a 4", "store a 4 4", "want a 1 4+1s"))

    def test_taken_away(self):
        away = text(*HEADS, "place a", "through a 3", "store a 3 3", "want a 2 1", "through a open", "store a 0 0",
                    "want a 2 0")
        self.assertEqual(str(read_net(away)), text(*HEADS, "place a"))
        self.assertEqual(str(read_net(text(*HEADS, "place a", "through a open", "store a 0 0", "want a 2 0"))),
                         text(*HEADS, "place a"))

    def test_each_kind_of_row(self):
        for line, deed in PLAIN:
            with self.subTest(line):
                net = valley()
                deed(net)
                self.assertEqual(str(read_net(text(VALLEY, line))), str(net))

    def test_each_read_net_stands_by_itself(self):
        one, two = read_net(VALLEY), read_net(VALLEY)
        one.strike("loop")
        self.assertEqual(two, valley())


def any_net(chance):
    """A net of all kinds of things that its box may bear."""
    def room(ends=True):
        if not ends and chance.random() < 0.4:
            return None
        rising, falling = (chance.randint(0, 9), chance.randint(0, 3)), (chance.randint(12, 19), chance.randint(-3, 0))
        return chance.choice((rising, falling))

    net = Net(hours=chance.randint(1, 6), s_box=(0, chance.randint(0, 4)), t_box=(-chance.randint(0, 4), 0))
    for number in range(chance.randint(1, 12)):
        name = f"p{number}"
        net.place(name)
        net.through(name, room(ends=False))
        net.store(name, room(ends=False), (chance.randint(-9, 9), chance.randint(-2, 2)))
        for hour in range(1, net.hours + 1):
            net.want(name, hour, (chance.randint(-2, 2), chance.randint(-1, 1)))
    for number in range(chance.randint(0, 24)):
        start, end = chance.choice(net.place_names()), chance.choice(net.place_names())
        prices = [(10 * at + chance.randint(-4, 4), chance.randint(0, 1) - at) for at in range(chance.randint(1, 4))]
        rungs = [(room(), price) for price in prices[:-1]] + [(room(ends=False), prices[-1])]
        net.road(f"r{number}", start, end, takes=chance.randint(0, 9), floor=room(), rungs=tuple(rungs))
    return net


class BadTextTest(NetCase):
    def assert_bad(self, number, why, said):
        with self.subTest(said):
            self.assert_refused(BadRow(number, why), lambda: read_net(said))

    def test_cut_short(self):
        self.assert_bad(1, "form", "")
        self.assert_bad(2, "form", "hours 3")
        self.assert_bad(3, "form", text("hours 3", "s 0 4"))

    def test_a_line_end_too_many(self):
        self.assert_bad(1, "form", "\n")
        self.assert_bad(1, "form", "\n" + VALLEY)
        self.assert_bad(2, "form", "hours 3\n")
        self.assert_bad(3, "form", "hours 3\ns 0 4\n")
        self.assert_bad(4, "form", text(*HEADS) + "\n")
        self.assert_bad(16, "form", VALLEY + "\n")
        self.assert_bad(5, "form", text(*HEADS, "place a", "", "place b"))

    def test_heads_in_a_wrong_place(self):
        self.assert_bad(1, "form", text("s 0 4", "hours 3", "t -2 2"))
        self.assert_bad(2, "form", text("hours 3", "t -2 2", "s 0 4"))
        self.assert_bad(2, "form", text("hours 3", "place a", "s 0 4"))
        self.assert_bad(3, "form", text("hours 3", "s 0 4", "place a", "t -2 2"))
        self.assert_bad(3, "form", text("hours 3", "s 0 4", "s 0 4", "t -2 2"))
        self.assert_bad(1, "form", text("place a", *HEADS))

    def test_heads_told_twice(self):
        for head in HEADS:
            self.assert_bad(4, "form", text(*HEADS, head))
            self.assert_bad(6, "form", text(*HEADS, "place a", "place b", head, "place c"))

    def test_form_of_heads(self):
        for row in ("hours", "hours 3 3", "hours 03", "hours +3", "hours 3s", "hours x", "hours 3 ", " hours 3",
                    "hours  3", "hours 12345678", "hours -0", "Hours 3", "hour 3", "hours 3.0", "hours 6/2", "3",
                    "hours three", "hours open", "hours "):
            self.assert_bad(1, "form", text(row, "s 0 4", "t -2 2"))
        for numbers in ("", " ", " 0", " 0 4 5", "  0 4", " 0  4", " 0 4 ", " 00 4", " 0 04", " -0 4", " 0 +4",
                        " 0 4s", " 0..4", " 0 12345678", " -12345678 0", " low high", " 0 4+1s", " 0 open"):
            self.assert_bad(2, "form", text("hours 3", "s" + numbers, "t -2 2"))
            self.assert_bad(3, "form", text("hours 3", "s 0 4", "t" + numbers))
        for word in ("S", "T", "box", "st", "t", "box s"):
            self.assert_bad(2, "form", text("hours 3", word + " 0 4", "t -2 2"))
        for word in ("S", "T", "box", "ts", "s", "box t"):
            self.assert_bad(3, "form", text("hours 3", "s 0 4", word + " -2 2"))

    def test_refused_heads(self):
        for hours in (0, 7, -1, 9999999, -9999999):
            self.assert_bad(1, "bad hours", text(f"hours {hours}", "s 0 4", "t -2 2"))
        for box, why in (("1 0", "bad box"), ("0 -1", "bad box"), ("0 1000001", "too far"), ("-1000001 0", "too far"),
                         ("1000001 0", "too far"), ("0 -9999999", "too far")):
            self.assert_bad(2, why, text("hours 3", "s " + box, "t -2 2"))
            self.assert_bad(3, why, text("hours 3", "s 0 4", "t " + box))

    def test_the_first_one_of_two_faults(self):
        self.assert_bad(1, "bad hours", "hours 7")
        self.assert_bad(1, "bad hours", text("hours 7", "s x", "t"))
        self.assert_bad(1, "form", text("hours 7 7", "s 1 0", "t 1 0"))
        self.assert_bad(2, "bad box", text("hours 3", "s 1 0"))
        self.assert_bad(2, "bad box", text("hours 3", "s 1 0", "t 0"))
        self.assert_bad(2, "form", text("hours 3", "s 0", "t 1 0"))
        self.assert_bad(3, "bad box", text("hours 3", "s 0 4", "t 1 0", "place"))
        self.assert_bad(5, "taken", text(*HEADS, "place a", "place a", "place"))
        self.assert_bad(5, "form", text(*HEADS, "place a", "place", "place a"))

    def test_form_of_rows(self):
        for row in BAD_FORMS:
            if "\n" not in row:
                self.assert_bad(16, "form", text(VALLEY, row))
                self.assert_bad(16, "form", text(VALLEY, row, "place hill"))

    def test_no_strike_and_no_box(self):
        for row in [row for row, _ in OTHERS] + [row for row, _ in REFUSED_OTHERS]:
            self.assert_bad(16, "form", text(VALLEY, row))

    def test_refused_deeds(self):
        for row, why in REFUSED:
            self.assert_bad(16, why, text(VALLEY, row))
            self.assert_bad(18, why, text(VALLEY, "place last", "want last 1 1", row, "place"))

    def test_a_name_ahead_of_its_place(self):
        self.assert_bad(4, "no place", text(*HEADS, "want a 1 3", "place a"))
        self.assert_bad(4, "no place", text(*HEADS, "through a 3", "place a"))
        self.assert_bad(4, "no place", text(*HEADS, "store a 3 3", "place a"))
        self.assert_bad(5, "no place", text(*HEADS, "place a", "road go a b 0 0 open:0", "place b"))

    def test_too_many(self):
        told = str(full_net())
        self.assert_bad(len(told.split("\n")) + 1, "too many", text(told, "place more"))
        self.assert_bad(len(told.split("\n")) + 1, "too many", text(told, "road more p0 p0 0 0 open:0"))
        self.assert_bad(len(told.split("\n")) + 1, "form", text(told, "road more p0 p0 0 0"))


if __name__ == "__main__":
    unittest.main()
