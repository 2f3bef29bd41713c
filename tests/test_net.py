import unittest
import unittest.mock

from common import NetCase, VALLEY, full_net, looks, valley
from dialweir import net as net_module
from dialweir.errors import BadBox, BadHours, BadName, InUse, NoHour, NoName, NoPlace, Taken, TooFar, TooMany
from dialweir.net import Net, OPEN_RUNG

BAD_NAMES = ("", "ninesigns", "1st", "9", "Mill", "mIll", "mill-a", "mi_ll", "mi ll", "mill ", " mill", "_a", "a.b",
             "mill\n", "a/b", "a:b", "m\u00efll", "a" * 3000)
GOOD_NAMES = ("a", "z", "a1", "z9", "eightsig", "a0123456", "open")


class ConstantsTest(unittest.TestCase):
    def test_as_told(self):
        told = {
            "MOST": 1000000, "MOST_HOURS": 6, "MOST_PLACES": 12, "MOST_ROADS": 24, "MOST_RUNGS": 4, "MOST_TAKES": 9,
            "MOST_ARCS": 96, "OPEN_RUNG": ((None, (0, 0)),),
        }
        self.assertEqual({name: getattr(net_module, name) for name in told}, told)


class BegunTest(NetCase):
    def test_what_is_left_out(self):
        net = Net()
        self.assertEqual((net.hours, net.s_box, net.t_box), (1, (0, 0), (0, 0)))
        self.assertEqual((net.place_names(), net.road_names(), net.parts(), net.spots()), ([], [], [], []))

    def test_fields(self):
        net = Net(hours=6, s_box=(-3, 4), t_box=(5, 5))
        self.assertEqual((net.hours, net.s_box, net.t_box), (6, (-3, 4), (5, 5)))

    def test_hours(self):
        for hours in range(1, 7):
            self.assertEqual(Net(hours=hours).hours, hours)
        for hours in (0, 7, -1, 1000):
            with self.subTest(hours):
                self.assert_refused(BadHours(hours), lambda: Net(hours=hours))

    def test_handed_in_by_name_alone(self):
        self.assertRaises(TypeError, Net, 1)

    def test_boxes_at_the_bounds(self):
        net = Net(s_box=(-1000000, 1000000), t_box=(1000000, 1000000))
        self.assertEqual((net.s_box, net.t_box), ((-1000000, 1000000), (1000000, 1000000)))
        self.assertEqual(Net(t_box=(-1000000, -1000000)).t_box, (-1000000, -1000000))

    def test_boxes_too_far(self):
        for dial in ("s_box", "t_box"):
            for box, number in (
                ((-1000001, 0), -1000001), ((0, 1000001), 1000001), ((-1000001, 1000001), -1000001),
                ((1000001, 1000002), 1000001), ((-1000003, -1000002), -1000003), ((1000001, 0), 1000001),
                ((0, -1000001), -1000001), ((1000002, -1000001), 1000002),
            ):
                with self.subTest(dial=dial, box=box):
                    self.assert_refused(TooFar(number), lambda: Net(**{dial: box}))

    def test_low_above_high(self):
        for box in ((1, 0), (0, -1), (1000000, -1000000)):
            self.assert_refused(BadBox("s"), lambda: Net(s_box=box))
            self.assert_refused(BadBox("t"), lambda: Net(t_box=box))

    def test_the_first_one_told(self):
        self.assert_refused(BadHours(0), lambda: Net(hours=0, s_box=(1000001, 0), t_box=(1, 0)))
        self.assert_refused(TooFar(1000002), lambda: Net(s_box=(0, 1000002), t_box=(1000001, 0)))
        self.assert_refused(BadBox("s"), lambda: Net(s_box=(1, 0), t_box=(1000001, 0)))
        self.assert_refused(BadBox("s"), lambda: Net(s_box=(1, 0), t_box=(1, 0)))


class NameTest(NetCase):
    def test_good(self):
        net = Net()
        for name in GOOD_NAMES:
            net.place(name)
        self.assertEqual(net.place_names(), list(GOOD_NAMES))
        net = Net()
        net.place("here")
        for name in GOOD_NAMES:
            net.road(name, "here", "here")
        self.assertEqual(net.road_names(), list(GOOD_NAMES))

    def test_bad(self):
        net = valley()
        for name in BAD_NAMES:
            with self.subTest(name):
                self.assert_refused(BadName(name), lambda: net.place(name), net)
                self.assert_refused(BadName(name), lambda: net.road(name, "spring", "sea"), net)

    def test_taken(self):
        net = valley()
        for name in ("spring", "sea", "east", "loop"):
            with self.subTest(name):
                self.assert_refused(Taken(name), lambda: net.place(name), net)
                self.assert_refused(Taken(name), lambda: net.road(name, "spring", "sea"), net)

    def test_free_again_behind_a_strike(self):
        net = valley()
        net.strike("east")
        net.place("east")
        net.strike("west")
        net.strike("mill")
        net.road("mill", "spring", "east")
        self.assertEqual(net.place_names(), ["spring", "sea", "east"])
        self.assertEqual(net.road_names(), ["loop", "mill"])


class TooManyTest(NetCase):
    def test_places(self):
        net = full_net()
        self.assertEqual(len(net.place_names()), 12)
        self.assert_refused(TooMany(12), lambda: net.place("more"), net)
        for name in BAD_NAMES:
            self.assert_refused(BadName(name), lambda: net.place(name), net)
        self.assert_refused(Taken("p3"), lambda: net.place("p3"), net)
        self.assert_refused(Taken("r3"), lambda: net.place("r3"), net)

    def test_roads(self):
        net = full_net()
        self.assertEqual(len(net.road_names()), 24)
        self.assert_refused(TooMany(24), lambda: net.road("more", "p1", "p2"), net)
        self.assert_refused(BadName("More"), lambda: net.road("More", "p1", "p2"), net)
        self.assert_refused(Taken("r3"), lambda: net.road("r3", "p1", "p2"), net)
        self.assert_refused(Taken("p3"), lambda: net.road("p3", "p1", "p2"), net)
        self.assert_refused(NoPlace("here"), lambda: net.road("more", "here", "p2"), net)
        self.assert_refused(NoPlace("here"), lambda: net.road("more", "p1", "here"), net)
        self.assert_refused(TooMany(24), lambda: net.road("more", "p1", "p2", takes=10), net)

    def test_one_struck_one_more_goes_in(self):
        net = full_net()
        net.strike("p11")
        net.place("more")
        self.assertEqual(net.place_names()[-2:], ["p10", "more"])
        self.assert_refused(TooMany(12), lambda: net.place("again"), net)
        net.strike("r0")
        net.road("extra", "p1", "more")
        self.assertEqual((net.road_names()[0], net.road_names()[-1]), ("r1", "extra"))
        self.assert_refused(TooMany(24), lambda: net.road("again", "p1", "p2"), net)


class WantTest(NetCase):
    def test_a_new_place(self):
        net = Net(hours=3)
        net.place("a")
        self.assertEqual(net.place_told("a"), (None, (0, 0), (0, 0), ((0, 0), (0, 0), (0, 0))))

    def test_set_at_one_hour(self):
        net = Net(hours=3)
        net.place("a")
        net.place("b")
        net.want("a", 1, (-4, 1))
        net.want("a", 3, (2, 0))
        self.assertEqual(net.place_told("a"), (None, (0, 0), (0, 0), ((-4, 1), (0, 0), (2, 0))))
        self.assertEqual(net.place_told("b")[3], ((0, 0), (0, 0), (0, 0)))
        net.want("a", 1, (5, -5))
        net.want("a", 3)
        self.assertEqual(net.place_told("a")[3], ((5, -5), (0, 0), (0, 0)))

    def test_below_nought_is_no_fault(self):
        net = Net(s_box=(-1000000, 1000000))
        net.place("a")
        net.want("a", 1, (-1000000, -1000000))
        self.assertEqual(net.place_told("a")[3], ((-1000000, -1000000),))
        net.want("a", 1, (1000000, 1000000))
        self.assertEqual(net.place_told("a")[3], ((1000000, 1000000),))

    def test_refusals(self):
        self.assert_order(valley, "want", {"place": "mill", "hour": 3, "move": (1, 1)}, [
            ({"place": "hill"}, NoPlace("hill")),
            ({"place": "east"}, NoPlace("east")),
            ({"hour": 0}, NoHour(0)),
            ({"hour": 4}, NoHour(4)),
            ({"hour": -1}, NoHour(-1)),
            ({"move": (1000001, 0)}, TooFar(1000001)),
            ({"move": (-1000001, 0)}, TooFar(-1000001)),
            ({"move": (0, 1000001)}, TooFar(1000001)),
            ({"move": (0, -1000001)}, TooFar(-1000001)),
            ({"move": (1000001, -1000001)}, TooFar(1000001)),
            ({"move": (-1000002, 1000001)}, TooFar(-1000002)),
        ])

    def test_the_rest_of_the_place_stays(self):
        net = valley()
        net.want("spring", 2, (7, 0))
        self.assertEqual(net.place_told("spring"), (None, (5, 1), (0, 1), ((-6, -1), (7, 0), (0, 0))))
        net.want("mill", 2)
        self.assertEqual(net.place_told("mill"), ((20, -2), (0, 0), (0, 0), ((0, 0), (0, 0), (1, 1))))


class StrikeTest(NetCase):
    def test_a_road(self):
        net = valley()
        net.strike("west")
        self.assertEqual((net.road_names(), len(net)), (["east", "loop"], 2))
        self.assertEqual(net.place_names(), ["spring", "mill", "sea"])
        self.assert_refused(NoName("west"), lambda: net.strike("west"), net)

    def test_a_place_in_use(self):
        net = valley()
        net.strike("west")
        # A road begins at the one, ends at the other, and does both at the third.
        for name in ("spring", "mill", "sea"):
            with self.subTest(name):
                self.assert_refused(InUse(name), lambda: net.strike(name), net)

    def test_a_place_free_again(self):
        net = valley()
        net.strike("east")
        net.strike("spring")
        self.assertEqual(net.place_names(), ["mill", "sea"])
        self.assert_refused(NoName("spring"), lambda: net.strike("spring"), net)
        self.assert_refused(NoPlace("spring"), lambda: net.place_told("spring"), net)
        self.assertEqual([name for name, _ in net.spots()], ["mill"] * 3 + ["sea"] * 3)

    def test_a_place_put_again_is_a_new_one_behind_the_others(self):
        net = valley()
        net.strike("east")
        net.strike("spring")
        net.place("spring")
        self.assertEqual(net.place_names(), ["mill", "sea", "spring"])
        self.assertEqual(net.place_told("spring"), (None, (0, 0), (0, 0), ((0, 0),) * 3))
        net.road("east", "spring", "sea")
        self.assertEqual(net.road_names(), ["west", "loop", "east"])

    def test_strangers(self):
        net = valley()
        for name in ("hill", "", "West", "springs"):
            self.assert_refused(NoName(name), lambda: net.strike(name), net)


class TwinTest(NetCase):
    def test_alike(self):
        net = valley()
        self.assertEqual(looks(net.twin()), looks(net))
        self.assertTrue(net.twin() == net)
        self.assertIs(type(net.twin()), Net)

    def test_stands_by_itself(self):
        deeds = (
            lambda net: net.place("hill"), lambda net: net.want("mill", 1, (3, 0)), lambda net: net.through("mill"),
            lambda net: net.store("mill", (4, 0)), lambda net: net.road("up", "sea", "spring"),
            lambda net: net.change("west", takes=0), lambda net: net.box(s=(1, 2), t=(0, 1)),
            lambda net: net.strike("loop"), lambda net: net.rows(["place hill", "box s 1 1", "strike loop"]),
        )
        for number, deed in enumerate(deeds):
            with self.subTest(number):
                net = valley()
                twin = net.twin()
                before = looks(net)
                deed(twin)
                self.assertEqual(looks(net), before)
                self.assertNotEqual(looks(twin), before)
                twin = net.twin()
                deed(net)
                self.assertEqual(looks(twin), before)
                self.assertNotEqual(looks(net), before)


class SameTest(unittest.TestCase):
    def test_len_and_repr(self):
        self.assertEqual((len(Net()), len(valley()), len(full_net())), (0, 3, 24))
        self.assertEqual(repr(Net()), "Net of 0 places, 0 roads, 1 hours")
        self.assertEqual(repr(valley()), "Net of 3 places, 3 roads, 3 hours")
        net = Net(hours=2)
        net.place("a")
        self.assertEqual(repr(net), "Net of 1 places, 0 roads, 2 hours")

    def test_same_text(self):
        self.assertIs(valley() == valley(), True)
        self.assertIs(valley() != valley(), False)
        self.assertIs(Net() == Net(), True)

    def test_other_text(self):
        net, other = Net(), Net()
        net.place("a")
        net.place("b")
        other.place("b")
        other.place("a")
        for one, two in ((net, other), (Net(), Net(hours=2)), (Net(), Net(t_box=(0, 1))), (net, Net())):
            self.assertIs(one == two, False)
            self.assertIs(one != two, True)

    def test_a_move_that_is_worth_the_same_is_another_text(self):
        net, other = Net(s_box=(2, 2)), Net(s_box=(2, 2))
        for one, move in ((net, (4, 0)), (other, (0, 2))):
            one.place("a")
            one.through("a", move)
        self.assertIs(net == other, False)

    def test_nothing_else(self):
        net = valley()
        for other in (VALLEY, None, [], [net], 3, (), {}, unittest.mock.ANY, OPEN_RUNG):
            self.assertIs(net == other, False)
            self.assertIs(net != other, True)


if __name__ == "__main__":
    unittest.main()
