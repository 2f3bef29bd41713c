"""Houses: their deeds, what is taken back and done again, marks and looks."""

import unittest

from common import VALLEY, valley
from dialweir.atlas import Atlas
from dialweir.errors import BadName, BadRow, Barred, NoBottom, NoMark, NoNet, NothingThere, Outside, Taken, TooGreat
from dialweir.errors import TooMany
from dialweir.fracs import Span
from dialweir.house import House, MOST_NETS
from dialweir.looker import ring_price, set_lack
from dialweir.net import Net
from dialweir.tongue import read_net
from house_case import BAD_NAMES, EMPTY, GREAT, HouseCase, NAMES, NARROW, RIVER, looks, walked


def filled():
    """A house of two nets, with something to be taken back and something to be done again."""
    house = House()
    house.begin("river", RIVER)
    house.begin("two", EMPTY)
    house.edit("two", ["place x"])
    house.mark("here")
    house.begin("three", EMPTY)
    house.drop("river")
    house.undo()
    house.undo()
    return house


class MadeTest(HouseCase):
    def test_empty(self):
        house = House()
        self.assertEqual(looks(house), ([], [], "", 0, 8))
        self.assertEqual((MOST_NETS, walked(house)), (8, []))
        self.assert_refused(house, NothingThere("undo"), house.undo)
        self.assert_refused(house, NothingThere("redo"), house.redo)

    def test_limits(self):
        for limit in (0, 1, 3, 8, 20):
            house = House(limit=limit)
            self.assertEqual(house.limit, limit)
            for number in range(limit):
                house.begin(f"n{number}", EMPTY)
            self.assert_refused(house, TooMany(limit), house.begin, "more", EMPTY)
            if limit:
                self.assert_refused(house, TooMany(limit), house.twin, "n0", "more")
                house.drop("n0")
                house.begin("more", EMPTY)
        house = House()
        for number in range(8):
            house.begin(f"n{number}", EMPTY)
        self.assert_refused(house, TooMany(8), house.begin, "more", EMPTY)


class DeedTest(HouseCase):
    def test_begin(self):
        house = House()
        for name in NAMES:
            self.assertIsNone(house.begin(name, RIVER))
        house.begin("valley", VALLEY)
        self.assertEqual(house.names(), [*NAMES, "valley"])
        self.assertEqual((house.text("a"), house.text("valley")), (RIVER, VALLEY))
        self.assertEqual((house.net("valley"), len(house)), (valley(), 4))

    def test_begin_refused(self):
        house = filled()
        for name in BAD_NAMES:
            self.assert_refused(house, BadName(name), house.begin, name, EMPTY)
            self.assert_refused(house, BadName(name), house.begin, name, "")
        self.assert_refused(house, Taken("two"), house.begin, "two", EMPTY)
        self.assert_refused(house, Taken("two"), house.begin, "two", "")
        for text, number, why in (("", 1, "form"), ("hours 7", 1, "bad hours"), ("hours 1\ns 1 0", 2, "bad box"),
                                  (EMPTY + "\nplace A", 4, "bad name"), (EMPTY + "\nstrike a", 4, "form"),
                                  (EMPTY + "\n", 4, "form"), (RIVER + "\nplace mill", 9, "taken")):
            self.assert_refused(house, BadRow(number, why), house.begin, "new", text)
        house = House(limit=1)
        house.begin("one", EMPTY)
        self.assert_refused(house, BadName("A"), house.begin, "A", "")
        self.assert_refused(house, Taken("one"), house.begin, "one", "")
        self.assert_refused(house, TooMany(1), house.begin, "two", "")

    def test_twin(self):
        house = filled()
        self.assertIsNone(house.twin("river", "again"))
        self.assertEqual(house.names(), ["river", "two", "again"])
        self.assertEqual(house.text("again"), RIVER)
        # Each of the two stands by itself.
        house.edit("again", ["place x"])
        self.assertEqual(house.text("river"), RIVER)
        house.edit("river", ["strike east"])
        self.assertEqual(house.text("again"), str(read_net(RIVER + "\nplace x")))

    def test_twin_refused(self):
        house = filled()
        self.assert_refused(house, NoNet("no"), house.twin, "no", "A")
        self.assert_refused(house, NoNet(""), house.twin, "", "new")
        for name in BAD_NAMES:
            self.assert_refused(house, BadName(name), house.twin, "two", name)
        self.assert_refused(house, Taken("river"), house.twin, "two", "river")
        self.assert_refused(house, Taken("two"), house.twin, "two", "two")
        house = House(limit=1)
        house.begin("one", EMPTY)
        self.assert_refused(house, NoNet("no"), house.twin, "no", "two")
        self.assert_refused(house, BadName("A"), house.twin, "one", "A")
        self.assert_refused(house, Taken("one"), house.twin, "one", "one")
        self.assert_refused(house, TooMany(1), house.twin, "one", "two")

    def test_drop(self):
        house = filled()
        self.assertIsNone(house.drop("river"))
        self.assertEqual((house.names(), len(house)), (["two"], 1))
        self.assert_refused(house, NoNet("river"), house.drop, "river")
        house.begin("river", EMPTY)
        self.assertEqual(house.names(), ["two", "river"])

    def test_edit(self):
        house = filled()
        lines = ["place hill", "road up mill hill 0 0 open:0", "box s 0 3", "strike east", "want hill 1 2"]
        kept = list(lines)
        self.assertIsNone(house.edit("river", lines))
        self.assertEqual(lines, kept)
        net = read_net(RIVER)
        net.rows(lines)
        self.assertEqual((house.text("river"), house.names()), (str(net), ["river", "two"]))

    def test_edit_is_all_or_nothing(self):
        house = filled()
        for lines, number, why in ((["place y", "place y"], 2, "taken"), (["place y", "nothing"], 2, "form"),
                                   ([""], 1, "form"), (["strike spring"], 1, "in use"),
                                   (["box t 0 1", "box t 1 0", "box t 0 1"], 2, "bad box")):
            self.assert_refused(house, BadRow(number, why), house.edit, "river", lines)
        self.assert_refused(house, NoNet("no"), house.edit, "no", [""])
        self.assert_refused(house, NoNet("no"), house.edit, "no", ["place y"])

    def test_mark_and_back(self):
        house = filled()
        self.assertIsNone(house.mark("start"))
        house.drop("river")
        house.begin("river", EMPTY)
        house.edit("two", ["place y", "strike x"])
        self.assertIsNone(house.back("start"))
        self.assertEqual((house.names(), house.text("river")), (["river", "two"], RIVER))
        self.assertEqual(house.text("two"), EMPTY + "\nplace x")
        house.undo()
        self.assertEqual((house.names(), house.text("river")), (["two", "river"], EMPTY))
        house.redo()
        self.assertEqual(house.text("river"), RIVER)

    def test_mark_and_back_refused(self):
        house = filled()
        for name in BAD_NAMES:
            self.assert_refused(house, BadName(name), house.mark, name)
            self.assert_refused(house, NoMark(name), house.back, name)
        self.assert_refused(house, NoMark("there"), house.back, "there")
        self.assert_refused(house, NoMark("river"), house.back, "river")


class UndoTest(HouseCase):
    def test_through_each_kind_of_deed(self):
        house = House()
        told = [looks(house)]
        # Rows that are none, and a setting back where nothing changes, are deeds all the same.
        for name, *handed in (
            ("begin", "a", RIVER), ("mark", "m"), ("edit", "a", ["place x"]), ("twin", "a", "b"), ("drop", "a"),
            ("back", "m"), ("mark", "n"), ("edit", "a", []), ("back", "n"), ("begin", "c", EMPTY), ("back", "m"),
        ):
            getattr(house, name)(*handed)
            if name != "mark":
                told.append(looks(house))
        for expected in told[-2::-1]:
            house.undo()
            self.assertEqual(looks(house), expected)
        self.assert_refused(house, NothingThere("undo"), house.undo)
        for expected in told[1:]:
            house.redo()
            self.assertEqual(looks(house), expected)
        self.assert_refused(house, NothingThere("redo"), house.redo)

    def test_a_granted_deed_ends_what_can_be_done_again(self):
        for deed in (lambda house: house.begin("new", EMPTY), lambda house: house.twin("two", "new"),
                     lambda house: house.drop("two"), lambda house: house.edit("two", []),
                     lambda house: house.back("here")):
            house = filled()
            house.redo()
            house.undo()
            before = looks(house)
            deed(house)
            self.assert_refused(house, NothingThere("redo"), house.redo)
            house.undo()
            self.assertEqual(looks(house), before)

    def test_a_mark_ends_nothing(self):
        house = filled()
        kept = walked(house)
        house.mark("there")
        house.mark("here")
        self.assertEqual(walked(house), kept)
        house.redo()
        self.assertEqual(house.names(), ["river", "two", "three"])

    def test_a_refused_deed_ends_nothing(self):
        house = filled()
        self.assert_refused(house, Taken("two"), house.begin, "two", EMPTY)
        self.assert_refused(house, NoNet("no"), house.drop, "no")
        house.redo()
        house.redo()
        self.assertEqual(house.names(), ["two", "three"])

    def test_marks_stay(self):
        house = House()
        house.begin("a", EMPTY)
        house.mark("m")
        house.begin("b", EMPTY)
        house.undo()
        house.undo()
        # Taken back to ahead of the mark.
        house.back("m")
        self.assertEqual(house.names(), ["a"])
        house.undo()
        self.assertEqual(house.names(), [])
        house.begin("c", RIVER)
        house.back("m")
        house.drop("a")
        house.back("m")
        self.assertEqual((house.names(), house.text("a")), (["a"], EMPTY))

    def test_a_mark_that_is_told_again_moves(self):
        house = filled()
        house.drop("river")
        house.mark("here")
        house.begin("river", EMPTY)
        house.back("here")
        self.assertEqual(house.names(), ["two"])
        house.undo()
        house.undo()
        house.undo()
        self.assertEqual(house.names(), ["river", "two"])
        house.back("here")
        self.assertEqual(house.names(), ["two"])

    def test_nets_of_marks_are_not_edited(self):
        house = House()
        house.begin("a", EMPTY)
        house.mark("m")
        house.edit("a", ["place x"])
        house.back("m")
        house.edit("a", ["place y"])
        house.back("m")
        self.assertEqual(house.text("a"), EMPTY)
        house.undo()
        self.assertEqual(house.text("a"), EMPTY + "\nplace y")


class LookTest(HouseCase):
    def test_nets_stand_by_themselves(self):
        house = filled()
        net = house.net("river")
        self.assertIs(type(net), Net)
        net.strike("east")
        net.place("x")
        self.assertEqual(house.text("river"), RIVER)
        self.assertEqual(house.net("river"), read_net(RIVER))
        self.assertIsNot(house.net("river"), house.net("river"))
        other = house.net("two")
        house.edit("two", ["place z"])
        self.assertEqual(str(other), EMPTY + "\nplace x")

    def test_names_stand_by_themselves(self):
        house = filled()
        house.names().clear()
        self.assertEqual(house.names(), ["river", "two"])

    def test_no_net(self):
        house = filled()
        for deed in (house.text, house.net, house.span_of, house.bottom_of):
            self.assert_refused(house, NoNet("no"), deed, "no")
            self.assert_refused(house, NoNet("three"), deed, "three")
        self.assert_refused(house, NoNet("no"), house.worth, "no", (99, 1), (0, 1))

    def test_worth_and_stretches(self):
        house = filled()
        house.begin("narrow", NARROW)
        for name in ("river", "narrow", "two"):
            atlas = Atlas(house.net(name))
            self.assertEqual((house.span_of(name), house.bottom_of(name)), (atlas.reach()[0], atlas.bottom()[0]))
        self.assertEqual(house.worth("river", (2, 1), (1, 1)), (7, 1))
        self.assertEqual(house.worth("narrow", (1, 2), (1, 3)), (1, 1))
        self.assertEqual((house.span_of("narrow"), house.bottom_of("narrow")),
                         (Span((1, 2), (1, 2)), Span((0, 1), (1, 1))))
        house.edit("narrow", ["want a 1 -3"])
        self.assertIsNone(house.span_of("narrow"))
        house.edit("narrow", ["road f a a 0 0 open:-1"])
        self.assertIsNone(house.bottom_of("narrow"))

    def test_worth_refused(self):
        house = filled()
        house.begin("narrow", NARROW)
        net = house.net("narrow")
        self.assert_refused(house, Outside("s", (5, 1)), house.worth, "river", (5, 1), (9, 1))
        self.assert_refused(house, Outside("t", (9, 1)), house.worth, "river", (4, 1), (9, 1))
        for at in ((0, 1), (1, 3), (1, 1)):
            with self.assertRaises(Barred) as caught:
                house.worth("narrow", at, (2, 1))
            base, step = set_lack(net, caught.exception.paper)
            self.assertGreater(base * at[1] + step * at[0], 0)
        with self.assertRaises(NoBottom) as caught:
            house.worth("narrow", (1, 2), (2, 1))
        base, step = ring_price(net, caught.exception.paper)
        self.assertLess(base + step * 2, 0)

    def test_too_great(self):
        house = filled()
        house.begin("great", GREAT)
        for deed, at in ((house.worth, ((9, 1), (9, 1))), (house.span_of, ()), (house.bottom_of, ())):
            self.assert_refused(house, TooGreat(102), deed, "great", *at)


class SameTest(unittest.TestCase):
    def test_by_pages_alone(self):
        one, other = House(), House(limit=3)
        self.assertTrue(one == other)
        one.begin("a", EMPTY)
        self.assertTrue(one != other)
        other.begin("b", RIVER)
        other.mark("m")
        other.begin("a", EMPTY)
        other.drop("b")
        self.assertTrue(one == other)
        one.begin("b", EMPTY)
        other.begin("b", RIVER)
        self.assertFalse(one == other)
        other.edit("b", ["strike east", "strike mill", "strike spring", "box s 0 0", "box t 0 0"])
        self.assertFalse(one == other)
        other.drop("b")
        other.begin("b", EMPTY)
        self.assertTrue(one == other)
        # In another order.
        third = House()
        third.begin("b", EMPTY)
        third.begin("a", EMPTY)
        self.assertFalse(third == one)

    def test_other_things(self):
        house = filled()
        for other in (house.page(), None, 0, [], house.net("river")):
            self.assertFalse(house == other)
            self.assertTrue(house != other)


if __name__ == "__main__":
    unittest.main()
