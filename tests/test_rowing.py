import unittest

from common import NetCase, VALLEY, full_net, valley
from dialweir.errors import BadRow
from dialweir.net import Net
from dialweir.rowing import do_row, text_of
from told_rows import BAD_FORMS, OTHERS, PLAIN, REFUSED, REFUSED_OTHERS


def made(deed):
    net = valley()
    deed(net)
    return net


def pricey():
    """A net of valley() that no box of t may go beyond."""
    net = valley()
    net.road("r", "sea", "sea", rungs=(((1, 0), (0, 0)), (None, (2, 1))))
    return net


class DoRowTest(NetCase):
    def test_done(self):
        for line, deed in PLAIN:
            for plain in (False, True):
                with self.subTest(line, plain=plain):
                    net = valley()
                    self.assertIsNone(do_row(net, line, plain=plain))
                    self.assertEqual(net, made(deed))

    def test_strike_and_box(self):
        for line, deed in OTHERS:
            with self.subTest(line):
                net = valley()
                do_row(net, line)
                self.assertEqual(net, made(deed))
                self.assertNotEqual(net, valley())

    def test_no_strike_and_no_box_where_it_is_plain(self):
        net = valley()
        for line in [line for line, _ in OTHERS] + [line for line, _ in REFUSED_OTHERS]:
            with self.subTest(line):
                self.assert_refused(BadRow(1, "form"), lambda: do_row(net, line, plain=True), net)

    def test_plain_is_handed_in_by_name_alone(self):
        self.assertRaises(TypeError, do_row, valley(), "place hill", True)

    def test_form(self):
        net = valley()
        for line in BAD_FORMS:
            for plain in (False, True):
                with self.subTest(line, plain=plain):
                    self.assert_refused(BadRow(1, "form"), lambda: do_row(net, line, plain=plain), net)

    def test_refused_deeds(self):
        net = pricey()
        for line, why in REFUSED:
            for plain in (False, True):
                with self.subTest(line, plain=plain):
                    self.assert_refused(BadRow(1, why), lambda: do_row(net, line, plain=plain), net)
        for line, why in REFUSED_OTHERS:
            with self.subTest(line):
                self.assert_refused(BadRow(1, why), lambda: do_row(net, line), net)

    def test_too_many(self):
        net = full_net()
        self.assert_refused(BadRow(1, "too many"), lambda: do_row(net, "place more"), net)
        self.assert_refused(BadRow(1, "too many"), lambda: do_row(net, "road more p1 p1 0 0 open:0"), net)

    def test_form_ahead_of_the_deed(self):
        net = valley()
        for line in ("place Hill 3", "through hill 03", "store hill 3 x", "want hill 9 +1", "want hill x 1",
                     "road Up hill dale 10 0 open", "road Up hill dale x 0 open:0", "road mill sea sea 0 0",
                     "road up sea spring 10 -1 1:1 open:0 x", "box s 1000001 x", "box u 1 0", "strike hill dale"):
            with self.subTest(line):
                self.assert_refused(BadRow(1, "form"), lambda: do_row(net, line), net)

    def test_seven_figures(self):
        net = Net()
        do_row(net, "place a")
        do_row(net, "want a 1 1000000-1000000s")
        self.assertEqual(net.place_told("a")[3], ((1000000, -1000000),))
        do_row(net, "box t -1000000 1000000")
        self.assertEqual(net.t_box, (-1000000, 1000000))


class RowsTest(NetCase):
    def test_all_done(self):
        net, other = valley(), valley()
        lines = ["place hill", "want hill 2 4+1s", "road up hill sea 0 0 open:1", "strike loop", "box s 0 3",
                 "through hill 5", "box t 0 0", "store hill open 1"]
        kept = list(lines)
        self.assertIsNone(net.rows(lines))
        self.assertEqual(lines, kept)
        for line in lines:
            do_row(other, line)
        self.assertEqual(net, other)
        self.assertEqual((net.s_box, net.t_box), ((0, 3), (0, 0)))
        self.assertEqual(net.place_names(), ["spring", "mill", "sea", "hill"])
        self.assertEqual(net.road_names(), ["east", "west", "up"])

    def test_each_kind(self):
        for line, deed in PLAIN + OTHERS:
            with self.subTest(line):
                net = valley()
                net.rows([line])
                self.assertEqual(net, made(deed))

    def test_an_empty_list(self):
        net = valley()
        net.rows([])
        self.assertEqual(net, valley())

    def test_none_done(self):
        net = valley()
        good = ["place hill", "box s 1 2", "strike loop", "want mill 2 9", "road up hill sea 0 0 open:1"]
        for line, why in (("strike hill", "in use"), ("place hill", "taken"), ("place", "form"), ("", "form"),
                          ("hours 3", "form"), ("s 0 0", "form"), ("box s 1 0", "bad box"), ("want sea 4 1", "no hour"),
                          ("road loop sea sea 0 0 1:1 1:0", "falls")):
            for at in range(len(good) + 1):
                # Where the hill is not there yet, the rows that tell of it are refused otherwise.
                if at == len(good) or why in ("form", "bad box", "no hour"):
                    with self.subTest(line, at=at):
                        lines = good[:at] + [line] + good[at:]
                        kept = list(lines)
                        self.assert_refused(BadRow(at + 1, why), lambda: net.rows(lines), net)
                        self.assertEqual(lines, kept)

    def test_the_first_one_of_two_faults(self):
        net = valley()
        lines = ["place hill", "place mill", "place", "through hill x"]
        self.assert_refused(BadRow(2, "taken"), lambda: net.rows(lines), net)
        self.assert_refused(BadRow(1, "form"), lambda: net.rows(lines[2:]), net)

    def test_a_row_sees_what_the_rows_ahead_did(self):
        net = valley()
        net.rows(["strike loop", "strike west", "strike sea", "place sea", "road loop sea mill 0 0 open:0"])
        self.assertEqual(net.place_names(), ["spring", "mill", "sea"])
        self.assertEqual(net.place_told("sea"), (None, (0, 0), (0, 0), ((0, 0),) * 3))
        self.assertEqual(net.road_names(), ["east", "loop"])

    def test_a_twin_stays_as_it_was(self):
        net = valley()
        twin = net.twin()
        net.rows(["place hill", "strike loop"])
        self.assertEqual(twin, valley())
        net.place("dale")
        self.assertEqual(twin.place_names(), ["spring", "mill", "sea"])


class TextTest(unittest.TestCase):
    def test_by_hand(self):
        self.assertEqual(str(valley()), VALLEY)
        self.assertEqual(text_of(valley()), VALLEY)

    def test_empty(self):
        self.assertEqual(text_of(Net()), "hours 1\ns 0 0\nt 0 0")
        self.assertEqual(str(Net(hours=6, s_box=(-3, 4), t_box=(-1000000, 1000000))),
                         "hours 6\ns -3 4\nt -1000000 1000000")

    def test_rows_of_a_place(self):
        net = Net(hours=4, s_box=(0, 1))
        net.place("a")
        self.assertEqual(text_of(net).split("\n")[3:], ["place a"])
        net.want("a", 4, (-2, 0))
        net.want("a", 2, (0, -1))
        net.store("a", (0, 1))
        net.through("a", (0, 0))
        net.place("b")
        self.assertEqual(text_of(net).split("\n")[3:], [
            "place a", "through a 0", "store a 0+1s 0", "want a 2 0-1s", "want a 4 -2", "place b",
        ])

    def test_rungs(self):
        net = Net(s_box=(0, 2), t_box=(0, 2))
        net.place("a")
        net.road("go", "a", "a", takes=9, floor=(3, -1), rungs=(((0, 0), (-5, -1)), ((0, 2), (0, 0)), (None, (0, 1))))
        self.assertEqual(text_of(net).split("\n")[4:], ["road go a a 9 3-1s 0:-5-1t 0+2s:0 open:0+1t"])


if __name__ == "__main__":
    unittest.main()
