"""Passages, stores, roads, changes of them and of the box: what is set, and what is refused."""

import unittest

from common import NetCase, valley
from dialweir.errors import BadBox, BadName, BadRungs, BadTakes, Below, Falls, NoPlace, NoRoad, Taken, TooFar
from dialweir.net import Net

FAR = ((1000001, 0), (-1000001, 0), (0, 1000001), (0, -1000001), (1000001, -1000001), (-1000002, 1000001))
# Rungs at three prices, each as it is told in the box of t from -2 to 2.
GOOD_RUNGS = (((4, 0), (1, 0)), ((6, -1), (3, 1)), (None, (9, 0)))


def far_of(move):
    """The number of a move of FAR that is named."""
    return next(number for number in move if abs(number) > 1000000)


def pond(*, s_box=(0, 0), t_box=(0, 0)):
    """A net of two places alone."""
    net = Net(hours=2, s_box=s_box, t_box=t_box)
    net.place("a")
    net.place("b")
    return net


class ThroughTest(NetCase):
    def test_set_and_taken_away(self):
        net = valley()
        net.through("spring", (3, 1))
        self.assertEqual(net.place_told("spring"), ((3, 1), (5, 1), (0, 1), ((-6, -1), (0, 0), (0, 0))))
        net.through("spring", (0, 0))
        self.assertEqual(net.place_told("spring")[0], (0, 0))
        net.through("spring")
        self.assertEqual(net.place_told("spring")[0], None)
        net.through("mill", None)
        self.assertEqual(net.place_told("mill"), (None, (0, 0), (0, 0), ((0, 0), (2, 0), (1, 1))))

    def test_at_the_bounds(self):
        net = pond(s_box=(-1, 1))
        net.through("a", (1000000, 1000000))
        net.through("b", (1000000, -1000000))
        self.assertEqual((net.place_told("a")[0], net.place_told("b")[0]), ((1000000, 1000000), (1000000, -1000000)))

    def test_refusals(self):
        faults = [({"place": "hill"}, NoPlace("hill")), ({"place": "east"}, NoPlace("east"))]
        faults += [({"room": move}, TooFar(far_of(move))) for move in FAR]
        # The box of s is from 0 to 4.
        faults += [({"room": move}, Below("spring")) for move in ((-1, 0), (-1, 1), (3, -1), (-1, 5), (1, -1), (0, -1))]
        self.assert_order(valley, "through", {"place": "spring", "room": (4, -1)}, faults)

    def test_below_at_one_end_alone(self):
        net = pond(s_box=(-3, 5))
        net.through("a", (3, 1))
        net.through("a", (5, -1))
        self.assert_refused(Below("a"), lambda: net.through("a", (2, 1)), net)
        self.assert_refused(Below("a"), lambda: net.through("a", (4, -1)), net)


class StoreTest(NetCase):
    def test_set_and_taken_away(self):
        net = valley()
        net.store("mill", (4, 1), (-2, 1))
        self.assertEqual(net.place_told("mill"), ((20, -2), (4, 1), (-2, 1), ((0, 0), (2, 0), (1, 1))))
        net.store("mill", None)
        self.assertEqual(net.place_told("mill")[1:3], (None, (0, 0)))
        net.store("mill", None, (5, 0))
        self.assertEqual(net.place_told("mill")[1:3], (None, (5, 0)))
        net.store("mill")
        self.assertEqual(net.place_told("mill")[1:3], ((0, 0), (0, 0)))

    def test_a_room_of_nought_is_none_at_all_whatever_its_price(self):
        net = valley()
        net.store("sea", (0, 0), (7, 1))
        self.assertEqual(net.place_told("sea")[1:3], ((0, 0), (0, 0)))
        self.assertNotIn("store sea", str(net))
        self.assert_refused(TooFar(1000001), lambda: net.store("sea", (0, 0), (0, 1000001)), net)

    def test_a_room_that_is_nought_in_the_box_is_a_store(self):
        net = pond(s_box=(2, 2))
        net.store("a", (2, -1), (5, 0))
        self.assertEqual(net.place_told("a")[1:3], ((2, -1), (5, 0)))
        self.assertEqual(net.parts(), [("a", 1)])

    def test_prices_may_be_below_nought(self):
        net = pond(t_box=(-9, 9))
        net.store("a", (1, 0), (-1000000, -1000000))
        self.assertEqual(net.place_told("a")[2], (-1000000, -1000000))

    def test_refusals(self):
        faults = [({"place": "hill"}, NoPlace("hill")), ({"place": "east"}, NoPlace("east"))]
        faults += [({"room": move}, TooFar(far_of(move))) for move in FAR]
        faults += [({"price": move}, TooFar(far_of(move))) for move in FAR]
        faults += [({"room": move}, Below("spring")) for move in ((-1, 0), (-1, 1), (3, -1))]
        self.assert_order(valley, "store", {"place": "spring", "room": (4, -1), "price": (1, 1)}, faults)


class RoadTest(NetCase):
    def test_what_is_left_out(self):
        net = pond()
        net.road("go", "a", "b")
        self.assertEqual(net.road_told("go"), ("a", "b", 0, (0, 0), ((None, (0, 0)),)))

    def test_set(self):
        self.assertEqual(valley().road_told("east"), ("spring", "mill", 0, (1, 0), GOOD_RUNGS))
        self.assertEqual(valley().road_told("west"), ("mill", "sea", 1, (0, 1), (((8, 2), (0, -1)),)))

    def test_from_a_place_to_itself(self):
        net = pond()
        net.road("round", "b", "b")
        self.assertEqual(net.road_told("round")[:2], ("b", "b"))
        self.assertEqual(net.parts(), [("round", 1), ("round", 2)])

    def test_slower_than_the_clock(self):
        net = pond()
        for takes in range(10):
            net.road(f"go{takes}", "a", "b", takes=takes)
        self.assertEqual(net.road_told("go9")[2], 9)
        self.assertEqual(net.parts(), [("go0", 1), ("go0", 2), ("go1", 1)])

    def test_one_to_four_rungs(self):
        net = valley()
        rung = ((1, 0), (2, 0))
        for many in range(1, 5):
            net.road(f"go{many}", "spring", "sea", rungs=(rung,) * many)
            self.assertEqual(net.road_told(f"go{many}")[4], (rung,) * many)
        net.road("go", "spring", "sea", rungs=(rung, rung, rung, (None, (2, 0))))
        self.assertEqual(net.road_told("go")[4][3], (None, (2, 0)))

    def test_prices_that_are_the_same(self):
        net = valley()
        rungs = (((1, 0), (2, 1)), ((1, 0), (2, 1)), (None, (2, 1)))
        net.road("go", "spring", "sea", rungs=rungs)
        self.assertEqual(net.road_told("go")[4], rungs)

    def test_prices_that_meet_at_an_end(self):
        net = pond(t_box=(-3, 5))
        net.road("low", "a", "b", rungs=(((1, 0), (0, 0)), ((1, 0), (3, 1))))
        net.road("high", "a", "b", rungs=(((1, 0), (0, 0)), ((1, 0), (5, -1))))
        self.assertEqual(net.road_names(), ["low", "high"])

    def test_prices_that_fall_at_one_end_alone(self):
        net = pond(t_box=(-3, 5))
        for price in ((2, 1), (4, -1), (-1, 0)):
            rungs = (((1, 0), (0, 0)), ((1, 0), price))
            self.assert_refused(Falls("go"), lambda: net.road("go", "a", "b", rungs=rungs), net)

    def test_a_fall_behind_the_first_rung(self):
        net = valley()
        rungs = (((1, 0), (0, 0)), ((1, 0), (5, 0)), ((1, 0), (6, 0)), (None, (5, 0)))
        self.assert_refused(Falls("go"), lambda: net.road("go", "spring", "sea", rungs=rungs), net)

    def test_prices_below_nought(self):
        net = pond(t_box=(-1, 1))
        rungs = (((1, 0), (-1000000, 0)), (None, (-5, 0)))
        net.road("go", "a", "b", rungs=rungs)
        self.assertEqual(net.road_told("go")[4], rungs)

    def test_refusals(self):
        good = {"name": "go", "start": "spring", "end": "sea", "takes": 2, "floor": (4, -1), "rungs": GOOD_RUNGS}
        faults = [
            ({"name": "Go"}, BadName("Go")), ({"name": "mill"}, Taken("mill")), ({"name": "east"}, Taken("east")),
            ({"start": "hill"}, NoPlace("hill")), ({"start": "west"}, NoPlace("west")),
            ({"end": "dale"}, NoPlace("dale")), ({"end": "loop"}, NoPlace("loop")),
        ]
        self.assert_order(valley, "road", good, faults + run_faults("go"))

    def test_refusals_within_the_rungs(self):
        for rungs, expected in rung_faults("go"):
            with self.subTest(rungs):
                net = valley()
                self.assert_refused(expected, lambda: net.road("go", "spring", "sea", rungs=rungs), net)


def run_faults(name):
    """What a road and a change of one are refused for, in the order told; the box is that of valley()."""
    faults = [({"takes": takes}, BadTakes(takes)) for takes in (10, -1, 100)]
    faults += [({"floor": move}, TooFar(far_of(move))) for move in FAR]
    faults += [({"floor": move}, Below(name)) for move in ((-1, 0), (-1, 1), (3, -1))]
    faults += [({"rungs": rungs}, expected) for rungs, expected in rung_faults(name)]
    return faults


def rung_faults(name):
    """Rungs and what they are refused with; where two faults are in one, the one that is told first."""
    near = ((1, 0), (0, 0))
    below, far, costly = ((3, -1), (0, 0)), ((1000001, 0), (0, 0)), ((1, 0), (0, -1000001))
    faults = [
        ((), BadRungs(name)), ((near,) * 5, BadRungs(name)), (((None, (0, 0)), near), BadRungs(name)),
        ((near, (None, (0, 0)), near, near), BadRungs(name)), (((None, (0, 0)), (None, (0, 0))), BadRungs(name)),
        # Rungs that are too many, or in a wrong order, are told ahead of what is in them.
        ((far,) * 5, BadRungs(name)), (((None, (1000001, 0)), below), BadRungs(name)),
        ((far, (None, (0, 0)), near), BadRungs(name)),
        ((near, below), Below(name)), ((((-1, 0), (0, 0)),), Below(name)), ((((-1, 1), (0, 0)), near), Below(name)),
        ((near, near, near, ((0, -1), (0, 0))), Below(name)),
        # Rung by rung, and in a rung its room, its price, and then what is below nought.
        ((below, far), Below(name)), ((far, below), TooFar(1000001)), ((costly, far), TooFar(-1000001)),
        ((((1000002, 0), (1000001, 0)),), TooFar(1000002)), ((((3, -1), (1000001, 0)),), TooFar(1000001)),
        (((None, (0, 1000001)),), TooFar(1000001)), ((near, near, near, costly), TooFar(-1000001)),
        # A fall is told behind all rungs.
        ((((1, 0), (1, 0)), near), Falls(name)), ((((1, 0), (0, 0)), (None, (0, 1))), Falls(name)),
        ((((1, 0), (1, 0)), near, below), Below(name)), ((((1, 0), (1, 0)), near, far), TooFar(1000001)),
        ((((1, 0), (1, 0)), near, (None, (-1000001, 0))), TooFar(-1000001)),
    ]
    faults += [(((move, (0, 0)),), TooFar(far_of(move))) for move in FAR]
    faults += [((near, (None, move)), TooFar(far_of(move))) for move in FAR]
    return faults


class ChangeTest(NetCase):
    def test_one_by_one(self):
        net = valley()
        net.change("east", takes=2)
        self.assertEqual(net.road_told("east"), ("spring", "mill", 2, (1, 0), GOOD_RUNGS))
        net.change("east", floor=(7, -1))
        self.assertEqual(net.road_told("east"), ("spring", "mill", 2, (7, -1), GOOD_RUNGS))
        net.change("east", rungs=((None, (3, 0)),))
        self.assertEqual(net.road_told("east"), ("spring", "mill", 2, (7, -1), ((None, (3, 0)),)))

    def test_back_to_nought(self):
        net = valley()
        net.change("west", takes=0, floor=(0, 0))
        self.assertEqual(net.road_told("west"), ("mill", "sea", 0, (0, 0), (((8, 2), (0, -1)),)))

    def test_nothing_handed_in(self):
        net = valley()
        net.change("west")
        self.assertEqual(net, valley())

    def test_it_stays_where_it_stands(self):
        net = valley()
        net.change("east", takes=1)
        net.want("spring", 1, (1, 0))
        net.through("spring", (9, 0))
        net.store("spring", (9, 0))
        self.assertEqual(net.road_names(), ["east", "west", "loop"])
        self.assertEqual(net.place_names(), ["spring", "mill", "sea"])

    def test_refusals(self):
        good = {"name": "west", "takes": 2, "floor": (4, -1), "rungs": GOOD_RUNGS}
        faults = [({"name": name}, NoRoad(name)) for name in ("hill", "spring", "West", "")]
        self.assert_order(valley, "change", good, faults + run_faults("west"))

    def test_refusals_of_one_thing_alone(self):
        for wrong, expected in run_faults("west"):
            with self.subTest(wrong):
                net = valley()
                self.assert_refused(expected, lambda: net.change("west", **wrong), net)


class BoxTest(NetCase):
    def test_set(self):
        net = valley()
        net.box(s=(1, 3))
        self.assertEqual((net.s_box, net.t_box), ((1, 3), (-2, 2)))
        net.box(t=(-1, 0))
        self.assertEqual((net.s_box, net.t_box), ((1, 3), (-1, 0)))
        net.box(s=(2, 2), t=(0, 0))
        self.assertEqual((net.s_box, net.t_box), ((2, 2), (0, 0)))
        net.box()
        self.assertEqual((net.s_box, net.t_box), ((2, 2), (0, 0)))

    def test_at_the_bounds(self):
        net = pond()
        net.box(s=(-1000000, 1000000), t=(-1000000, 1000000))
        self.assertEqual((net.s_box, net.t_box), ((-1000000, 1000000), (-1000000, 1000000)))

    def test_refusals_of_a_box(self):
        faults = []
        for dial in ("s", "t"):
            faults += [
                ({dial: (-1000001, 0)}, TooFar(-1000001)), ({dial: (0, 1000001)}, TooFar(1000001)),
                ({dial: (1000002, 1000001)}, TooFar(1000002)), ({dial: (-1000001, 1000001)}, TooFar(-1000001)),
                ({dial: (1000001, 0)}, TooFar(1000001)), ({dial: (0, -1000001)}, TooFar(-1000001)),
                ({dial: (1, 0)}, BadBox(dial)), ({dial: (0, -1)}, BadBox(dial)),
            ]
        self.assert_order(pond, "box", {"s": (-5, 5), "t": (-5, 5)}, faults)

    def test_a_bad_box_ahead_of_what_it_breaks(self):
        net = valley()
        self.assert_refused(BadBox("t"), lambda: net.box(s=(-100, 100), t=(1, 0)), net)

    def test_as_far_as_it_goes(self):
        # Of each thing that moves, the last whole setting of s that it bears, and which way it does not.
        for name, last, way, set_up in (
            ("a", -2, -1, lambda net: net.through("a", (4, 2))), ("a", 2, 1, lambda net: net.through("a", (4, -2))),
            ("a", -3, -1, lambda net: net.store("a", (7, 2))), ("a", 3, 1, lambda net: net.store("a", (7, -2))),
            ("go", -1, -1, lambda net: net.road("go", "a", "b", floor=(1, 1))),
            ("go", 1, 1, lambda net: net.road("go", "a", "b", floor=(1, -1))),
            ("go", -5, -1, lambda net: net.road("go", "a", "b", rungs=(((9, 0), (0, 0)), ((5, 1), (0, 0))))),
            ("go", 5, 1, lambda net: net.road("go", "a", "b", rungs=(((5, -1), (0, 0)), (None, (0, 0))))),
        ):
            for other in (0, -1000 * way):
                with self.subTest(name=name, last=last, other=other):
                    net = pond()
                    set_up(net)
                    good, bad = sorted((other, last)), sorted((other, last + way))
                    net.box(s=tuple(good), t=(-1000000, 1000000))
                    self.assert_refused(Below(name), lambda: net.box(s=tuple(bad)), net)

    def test_falls_at_either_end(self):
        for price, last, way in (((3, 1), -3, -1), ((3, -1), 3, 1)):
            for other in (0, -1000 * way):
                with self.subTest(price=price, other=other):
                    net = pond()
                    net.road("go", "a", "b", rungs=(((1, 0), (-9, 0)), ((1, 0), (0, 0)), (None, price)))
                    good, bad = sorted((other, last)), sorted((other, last + way))
                    net.box(s=(-1000000, 1000000), t=tuple(good))
                    self.assert_refused(Falls("go"), lambda: net.box(t=tuple(bad)), net)

    def test_in_the_order_told(self):
        deeds = {
            "through": lambda net, name: net.through(name, (1, 1)),
            "store": lambda net, name: net.store(name, (1, 1)),
            "floor": lambda net, name: net.road(name, "a", "a", floor=(1, 1)),
            "falls": lambda net, name: net.road(name, "a", "a", rungs=(((1, 0), (0, 0)), (None, (1, 1)))),
        }
        for told, expected in (
            ([("b", "through"), ("a", "store")], Below("a")), ([("a", "through"), ("b", "store")], Below("a")),
            ([("r", "floor"), ("b", "store")], Below("b")), ([("r", "falls"), ("q", "floor")], Falls("r")),
            ([("r", "floor"), ("q", "falls")], Below("r")), ([("r", "falls"), ("b", "through")], Below("b")),
        ):
            with self.subTest(told):
                net = pond()
                for name, wrong in told:
                    deeds[wrong](net, name)
                self.assert_refused(expected, lambda: net.box(s=(-2, 0), t=(-2, 0)), net)
        net = pond()
        net.road("r", "a", "a", rungs=(((1, 0), (0, 0)), (None, (1, 1))))
        net.change("r", floor=(1, 1))
        self.assert_refused(Below("r"), lambda: net.box(s=(-2, 0), t=(-2, 0)), net)
        self.assert_refused(Falls("r"), lambda: net.box(s=(-1, 0), t=(-2, 0)), net)

    def test_deeds_look_at_the_box_as_it_stands(self):
        net = pond(s_box=(0, 4), t_box=(0, 4))
        net.box(s=(2, 3), t=(2, 3))
        net.through("a", (-2, 1))
        self.assert_refused(Below("b"), lambda: net.through("b", (2, -1)), net)
        net.road("go", "a", "b", rungs=(((1, 0), (2, 0)), (None, (0, 1))))
        rungs = (((1, 0), (3, 0)), (None, (0, 1)))
        self.assert_refused(Falls("to"), lambda: net.road("to", "a", "b", rungs=rungs), net)


if __name__ == "__main__":
    unittest.main()
