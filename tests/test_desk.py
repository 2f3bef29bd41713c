"""Desks: each line with its answer, refusals, forms, and the log."""

import unittest

from common import VALLEY
from dialweir.desk import Desk
from dialweir.house import House
from house_case import BAD_NAMES, EMPTY, GREAT, RIVER


class DeskCase(unittest.TestCase):
    def setUp(self):
        self.desk = Desk()
        self.answers = []

    def say(self, line, answer):
        """The line's answer is this one, it is logged, and no line is being done any more."""
        self.assertEqual(self.desk.say(line), answer, line)
        self.answers.append(answer)
        self.assertEqual((self.desk.log(), self.desk.depth), (self.answers, 0))

    def bring(self, name, text):
        """A net of this text, by lines alone."""
        rows = text.split("\n")
        numbers = " ".join(word for row in rows[:3] for word in row.split(" ")[1:])
        self.say(f"begin {name} {numbers}", "ok")
        for row in rows[3:]:
            self.say(f"do {name} {row}", "ok")


class AnswerTest(DeskCase):
    def test_empty(self):
        self.assertEqual((self.desk.log(), self.desk.depth), ([], 0))
        self.say("names", "names")
        self.say("page", "")
        self.say("undo", "refused nothing there")
        self.say("redo", "refused nothing there")

    def test_nets(self):
        self.bring("river", RIVER)
        self.say("page", "net river 8\n" + RIVER)
        self.bring("valley", VALLEY)
        self.say("names", "names river valley")
        self.say("page", f"net river 8\n{RIVER}\nnet valley 15\n{VALLEY}")
        self.say("twin river again", "ok")
        self.say("do again strike east", "ok")
        self.say("do again box s 1 2", "ok")
        self.say("drop valley", "ok")
        self.say("names", "names river again")

    def test_worths_and_stretches(self):
        self.bring("river", RIVER)
        self.say("reach river", "reach 0 4")
        self.say("bottom river", "bottom -1 2")
        self.say("worth river 2 1", "worth 7")
        self.say("worth river 1/2 1/3", "worth 7/2")
        self.say("worth river 0 -1/3", "worth 3")
        self.say("do river road down mill spring 0 0 open:0", "ok")
        self.say("do river road fall spring mill 0 0 open:1-1t", "ok")
        self.say("bottom river", "bottom -1 1")
        self.say("do river change east", "refused bad row: form")
        self.say("do river want mill 2 0+2s", "ok")
        self.say("reach river", "reach 3 3")
        self.say("do river want mill 2 1+3s", "ok")
        self.say("reach river", "reach 1 1")
        self.say("do river want mill 2 2+3s", "ok")
        self.say("reach river", "reach 1/2 1/2")
        self.say("worth river 1/2 0", "worth 7/2")
        self.say("do river want mill 2 4+1s", "ok")
        self.say("reach river", "reach none")
        self.say("do river road ever mill mill 0 0 open:-1", "ok")
        self.say("bottom river", "bottom none")

    def test_marks_and_taking_back(self):
        self.bring("a", EMPTY)
        self.say("mark m", "ok")
        self.say("do a place x", "ok")
        self.say("undo", "ok")
        self.say("page", "net a 3\n" + EMPTY)
        self.say("redo", "ok")
        self.say("back m", "ok")
        self.say("page", "net a 3\n" + EMPTY)
        self.say("undo", "ok")
        self.say("page", f"net a 4\n{EMPTY}\nplace x")
        self.say("redo", "ok")
        self.say("redo", "refused nothing there")
        for _ in range(3):
            self.say("undo", "ok")
        self.say("undo", "refused nothing there")
        self.say("names", "names")
        self.say("back m", "ok")
        self.say("names", "names a")

    def test_begin(self):
        self.say("begin a 6 -1000000 1000000 -5 -5", "ok")
        self.say("page", "net a 3\nhours 6\ns -1000000 1000000\nt -5 -5")

    def test_named_like_words_of_the_lines(self):
        words = ["begin", "do", "twin", "drop", "mark", "back", "undo", "names"]
        for word in words:
            self.say(f"begin {word} 1 0 0 0 0", "ok")
            self.say(f"mark {word}", "ok")
        self.say("names", "names " + " ".join(words))
        for word in words:
            self.say(f"do {word} place {word}", "ok")
            self.say(f"worth {word} 0 0", "worth 0")
            self.say(f"reach {word}", "reach 0 0")
            self.say(f"bottom {word}", "bottom 0 0")
        self.say("drop drop", "ok")
        self.say("twin twin drop", "ok")
        self.say("back back", "ok")
        self.say("names", "names begin do twin drop mark back")
        self.say("do do place do", "ok")
        self.say("back page", "refused no mark")
        self.say("drop page", "refused no net")


class RefusedTest(DeskCase):
    def test_each_word(self):
        self.bring("river", RIVER)
        self.bring("great", GREAT)
        self.bring("valley", VALLEY)
        self.say("begin River 1 0 0 0 0", "refused bad name")
        self.say("begin river 1 0 0 0 0", "refused taken")
        self.say("begin new 7 0 0 0 0", "refused bad row: bad hours")
        self.say("begin new 1 1 0 0 0", "refused bad row: bad box")
        self.say("begin new 1 0 0 1 0", "refused bad row: bad box")
        self.say("begin new 1 -1000001 0 0 0", "refused bad row: too far")
        self.say("twin no new", "refused no net")
        self.say("twin river New", "refused bad name")
        self.say("twin river great", "refused taken")
        self.say("drop no", "refused no net")
        self.say("do no place a", "refused no net")
        self.say("mark M", "refused bad name")
        self.say("back m", "refused no mark")
        self.say("worth no 0 0", "refused no net")
        self.say("worth river 5 9", "refused outside")
        self.say("worth river 0 9", "refused outside")
        self.say("worth valley 0 0", "refused barred")
        self.say("do river road fall mill mill 0 0 open:-1", "ok")
        self.say("worth river 0 0", "refused no bottom")
        self.say("worth great 0 0", "refused too great")
        self.say("reach great", "refused too great")
        self.say("bottom great", "refused too great")
        self.say("reach no", "refused no net")
        self.say("bottom no", "refused no net")
        for number in range(5):
            self.say(f"begin n{number} 1 0 0 0 0", "ok")
        self.say("begin more 1 0 0 0 0", "refused too many")
        self.say("twin river more", "refused too many")
        self.say("begin more 9 0 0 0 0", "refused too many")

    def test_names_of_other_forms(self):
        for name in BAD_NAMES:
            if name and " " not in name and "\n" not in name:
                self.say(f"begin {name} 1 0 0 0 0", "refused bad name")
                self.say(f"mark {name}", "refused bad name")
                self.say(f"back {name}", "refused no mark")
                self.say(f"drop {name}", "refused no net")

    def test_bad_rows(self):
        self.bring("river", RIVER)
        for row, why in (("place A", "bad name"), ("place mill", "taken"), ("nothing", "form"), ("place", "form"),
                         ("want mill 3 1", "no hour"), ("want hill 1 1", "no place"), ("strike mill", "in use"),
                         ("strike hill", "no name"), ("box s 1 0", "bad box"), ("through mill -1", "below"),
                         ("want mill 1 1000001", "too far"), ("road r mill mill 10 0 open:0", "bad takes"),
                         ("road r mill mill 0 0 open:0 1:0", "bad rungs"), ("road r mill mill 0 0 1:1 1:0", "falls"),
                         ("want mill 1 12345678", "form"), ("hours 2", "form"), ("place a b", "form")):
            self.say(f"do river {row}", f"refused bad row: {why}")
        self.say("page", "net river 8\n" + RIVER)
        self.say("do river road r mill mill 0 0", "refused bad row: form")

    def test_refused_lines_change_nothing(self):
        self.bring("river", RIVER)
        self.say("do river place x", "ok")
        self.say("undo", "ok")
        for line in ("do river place A", "drop no", "begin river 1 0 0 0 0", "back no", "worth river 9 9", "mark A", "x",
                     "", "names x"):
            self.assertTrue(self.desk.say(line).startswith("refused "))
            self.answers.append(self.desk.log()[-1])
        self.say("redo", "ok")
        self.say("page", "net river 9\n" + RIVER.replace("\nroad", "\nplace x\nroad"))


class FormTest(DeskCase):
    def test_lines_that_are_none(self):
        self.bring("river", RIVER)
        lines = [
            "", " ", "  ", "Names", "name", "help", "quit", "river", "ok", "names\n", "names\nnames", "\nnames",
            # A word too many, too few.
            "names names", "page river", "undo undo", "redo 1", "begin", "begin a", "begin a 1 0 0 0", "do", "do river",
            "begin a 1 0 0 0 0 0", "twin river", "twin", "twin river a b", "drop", "drop river river", "mark", "mark a b",
            "back", "back a b", "worth", "worth river", "worth river 0", "worth river 0 0 0", "reach", "reach river 0",
            "bottom", "bottom river 0",
            # Words without signs.
            " names", "names ", "undo ", " undo", "drop  river", "drop river ", "do  river place x", "do river  place x",
            "do river place  x", "do river place x ", "do river ", "do no  place x", "mark ", "back  a",
            "begin a  1 0 0 0 0", "begin a 1 0 0 0 0 ", "worth river  0 0", "worth river 0 0 ", "page ",
        ]
        for line in lines:
            self.say(line, "refused form")
        self.say("page", "net river 8\n" + RIVER)

    def test_whole_numbers(self):
        for word in ("01", "+1", "-0", "1.0", "x", "1/1", "12345678", "-12345678", "1s", "--1", "1-"):
            for at in range(5):
                numbers = ["1", "0", "0", "0", "0"]
                numbers[at] = word
                self.say(f"begin a {' '.join(numbers)}", "refused form")
        # Seven figures are of the form; what they tell is too far.
        self.say("begin a 1 0 9999999 0 0", "refused bad row: too far")
        self.say("begin a 9999999 0 0 0 0", "refused bad row: bad hours")
        # The form of all words ahead of all else.
        self.say("begin A 1 0 0 0 x", "refused form")

    def test_fractions(self):
        self.bring("river", RIVER)
        for word in ("2/4", "3/1", "0/2", "1/0", "1/-2", "-0", "01", "+1", "1/02", "1.5", "x", "1/", "/2", "1/2/3",
                     "1" * 31, "1/" + "1" * 31):
            self.say(f"worth river {word} 0", "refused form")
            self.say(f"worth river 0 {word}", "refused form")
            self.say(f"worth no 0 {word}", "refused form")
        self.say("worth river " + "1" * 30 + " 0", "refused outside")
        self.say("worth river 1/" + "1" * 30 + " 0", "worth " + "3" * 29 + "4/" + "1" * 30)


class StandingTest(DeskCase):
    def test_the_log_stands_by_itself(self):
        self.say("begin a 1 0 0 0 0", "ok")
        told = self.desk.log()
        told.append("x")
        self.assertEqual(self.desk.log(), ["ok"])
        self.say("names", "names a")
        self.assertEqual(told, ["ok", "x"])
        self.desk.log().clear()
        self.say("page", "net a 3\n" + EMPTY)

    def test_two_desks(self):
        one, other = Desk(), Desk()
        one.say("begin a 1 0 0 0 0")
        one.say("mark m")
        self.assertEqual(other.say("names"), "names")
        self.assertEqual(other.say("back m"), "refused no mark")
        self.assertEqual(other.say("undo"), "refused nothing there")
        other.say("begin a 2 0 0 0 0")
        one.say("do a place x")
        self.assertEqual(one.say("page"), f"net a 4\n{EMPTY}\nplace x")
        self.assertEqual(other.say("page"), "net a 3\nhours 2\ns 0 0\nt 0 0")
        self.assertEqual((len(one.log()), len(other.log())), (4, 5))
        self.assertEqual((one.depth, other.depth), (0, 0))

    def test_as_a_house(self):
        """The same deeds on a house leave the same page."""
        house = House()
        house.begin("a", RIVER)
        house.twin("a", "b")
        house.edit("b", ["strike east"])
        self.bring("a", RIVER)
        self.say("twin a b", "ok")
        self.say("do b strike east", "ok")
        self.say("page", house.page())


if __name__ == "__main__":
    unittest.main()
