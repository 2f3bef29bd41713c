"""The pages of houses, there and back, and pages that are refused."""

import unittest

from common import VALLEY
from dialweir.errors import BadRow, NoMark, NothingThere
from dialweir.house import House, read_page
from house_case import BAD_NAMES, EMPTY, NARROW, RIVER
from made_nets import made_net


def page_of(*nets):
    """The page of these names and texts."""
    return "\n".join(f"net {name} {len(text.split(chr(10)))}\n{text}" for name, text in nets)


def house_of(*nets):
    house = House()
    for name, text in nets:
        house.begin(name, text)
    return house


class PageTest(unittest.TestCase):
    def assert_there_and_back(self, *nets):
        house = house_of(*nets)
        self.assertEqual(house.page(), page_of(*nets))
        told = read_page(house.page())
        self.assertIs(type(told), House)
        self.assertTrue(told == house)
        self.assertEqual((told.page(), told.limit), (house.page(), 8))
        self.assertEqual([(name, told.text(name)) for name in told.names()], list(nets))
        for deed in (told.undo, told.redo):
            with self.assertRaises(NothingThere):
                deed()
        with self.assertRaises(NoMark):
            told.back("a")

    def test_no_nets(self):
        self.assertEqual(House().page(), "")
        self.assert_there_and_back()

    def test_there_and_back(self):
        self.assert_there_and_back(("a", EMPTY))
        self.assert_there_and_back(("net", RIVER), ("hours", EMPTY), ("place", VALLEY))
        self.assert_there_and_back(*[(f"n{number}", (EMPTY, RIVER, VALLEY, NARROW)[number % 4]) for number in range(8)])

    def test_made_nets(self):
        nets = [(f"n{seed}", str(made_net(seed, hours=1 + seed % 4))) for seed in range(8)]
        self.assert_there_and_back(*nets)

    def test_rows_that_are_written_otherwise_than_told(self):
        # A net's reader takes more than a net's text: the page is that of the nets.
        text = EMPTY + "\nplace a\nwant a 1 3\nwant a 1 0\nthrough a open\nstore a 0 7"
        self.assertEqual(read_page(page_of(("x", text))).page(), page_of(("x", EMPTY + "\nplace a")))

    def test_what_is_read_can_be_edited(self):
        house = read_page(page_of(("a", EMPTY), ("b", RIVER)))
        house.edit("a", ["place x"])
        house.drop("b")
        house.undo()
        house.undo()
        self.assertEqual(house.page(), page_of(("a", EMPTY), ("b", RIVER)))
        with self.assertRaises(NothingThere):
            house.undo()

    def test_deeds_behind_limits_of_other_houses(self):
        house = House(limit=12)
        for number in range(9):
            house.begin(f"n{number}", EMPTY)
        with self.assertRaises(BadRow) as caught:
            read_page(house.page())
        self.assertEqual((caught.exception.number, caught.exception.why), (33, "too many"))


class RefusedTest(unittest.TestCase):
    def assert_refused(self, text, number, why):
        with self.assertRaises(BadRow) as caught:
            read_page(text)
        self.assertIs(type(caught.exception), BadRow)
        self.assertEqual((caught.exception.number, caught.exception.why), (number, why), text)

    def test_heads(self):
        good = page_of(("a", EMPTY))
        for head in ("", "net", "net a", "net 3", "net a 3 3", "net  a 3", " net a 3", "net a 3 ", "Net a 3", "a 3",
                     "net a 03", "net a +3", "net a x", "net a 3/1", "net a 12345678", "net a 2", "net a 0", "net a -3",
                     "net a 3s", "place a", "hours 1", "nets a 3"):
            if head != "":
                self.assert_refused(head, 1, "form")
            self.assert_refused(f"{head}\n{EMPTY}", 1, "form")
            self.assert_refused(f"{good}\n{head}\n{EMPTY}", 5, "form")
        self.assert_refused("\n", 1, "form")
        self.assert_refused(good + "\n", 5, "form")
        self.assert_refused("\n" + good, 1, "form")

    def test_names(self):
        for name in BAD_NAMES:
            if name and " " not in name and "\n" not in name:
                self.assert_refused(page_of((name, EMPTY)), 1, "bad name")
                self.assert_refused(page_of(("a", RIVER), (name, EMPTY)), 10, "bad name")
        self.assert_refused(page_of(("a", RIVER), ("b", EMPTY), ("a", EMPTY)), 14, "taken")
        self.assert_refused(page_of(*[(f"n{number}", EMPTY) for number in range(9)]), 33, "too many")
        # Taken ahead of too many, a bad name ahead of both, the form ahead of all.
        eight = page_of(*[(f"n{number}", EMPTY) for number in range(8)])
        self.assert_refused(f"{eight}\nnet n3 3", 33, "taken")
        self.assert_refused(f"{eight}\nnet N3 3", 33, "bad name")
        self.assert_refused(f"{eight}\nnet N3 2", 33, "form")

    def test_rows_that_are_lacking(self):
        for text, number in (("net a 3", 2), ("net a 3\nhours 1\ns 0 0", 4), (f"net a 4\n{EMPTY}", 5),
                             (page_of(("a", EMPTY)) + "\nnet b 9999999\nhours 1", 7)):
            self.assert_refused(text, number, "form")
        # Ahead of what the net's reader finds, behind what the head has.
        self.assert_refused("net a 5\nhours 9\nplace a", 4, "form")
        self.assert_refused("net A 5\nhours 9\nplace a", 1, "bad name")

    def test_rows_that_are_refused(self):
        for rows, number, why in (("hours 7\ns 0 0\nt 0 0", 2, "bad hours"), ("hours 1\ns 1 0\nt 0 0", 3, "bad box"),
                                  ("hours 1\ns 0 0\nx 0 0", 4, "form"), (EMPTY + "\nplace a\nplace a", 6, "taken"),
                                  (EMPTY + "\nstrike a", 5, "form"), (EMPTY + "\n", 5, "form"),
                                  (EMPTY + "\nwant a 1 1", 5, "no place"), ("net b 3\nhours 1\ns 0 0", 2, "form")):
            self.assert_refused(page_of(("a", rows)), number, why)
            self.assert_refused(page_of(("first", RIVER), ("a", rows)), number + 9, why)

    def test_rows_told_too_few_or_too_many(self):
        # The fourth row is then the head of the next net, or the head a row of the net.
        self.assert_refused(f"net a 3\n{EMPTY}\nplace x", 5, "form")
        self.assert_refused(f"net a 4\n{EMPTY}\nnet b 3\n{EMPTY}", 5, "form")

    def test_the_first_of_two(self):
        self.assert_refused(page_of(("a", EMPTY + "\nplace A"), ("a", EMPTY)), 5, "bad name")
        self.assert_refused(page_of(("A", EMPTY + "\nplace A"), ("a", EMPTY)), 1, "bad name")
        self.assert_refused("net a 2\n" + EMPTY + "\nnet A 3", 1, "form")


if __name__ == "__main__":
    unittest.main()
