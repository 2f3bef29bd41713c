import inspect
import unittest

from dialweir import errors

SET_PAPER = ("in", [("mill", 1, "door"), ("mill", 1, "hall")])
RING_PAPER = [("east", 1), ("west", 2)]

FAMILIES = ("FormError", "NetError", "DialError", "PaperError", "HouseError")

# Each refusal: its name, its family, its word, its fields with something to hand in.
REFUSALS = (
    ("BadName", "FormError", "bad name", (("name", "Mill"),)),
    ("BadRow", "FormError", "bad row", (("number", 4), ("why", "form"))),
    ("BadWord", "FormError", "bad word", (("said", "2/4"),)),
    ("NoFraction", "FormError", "no fraction", ()),
    ("BadSpan", "FormError", "bad span", ()),
    ("BadHours", "NetError", "bad hours", (("number", 7),)),
    ("BadBox", "NetError", "bad box", (("dial", "s"),)),
    ("TooFar", "NetError", "too far", (("number", -1000001),)),
    ("TooMany", "NetError", "too many", (("most", 12),)),
    ("TooGreat", "NetError", "too great", (("number", 97),)),
    ("Taken", "NetError", "taken", (("name", "mill"),)),
    ("NoPlace", "NetError", "no place", (("name", "mill"),)),
    ("NoRoad", "NetError", "no road", (("name", "east"),)),
    ("NoName", "NetError", "no name", (("name", "east"),)),
    ("NoHour", "NetError", "no hour", (("number", 0),)),
    ("InUse", "NetError", "in use", (("name", "mill"),)),
    ("Below", "NetError", "below", (("name", "mill"),)),
    ("Falls", "NetError", "falls", (("name", "east"),)),
    ("BadRungs", "NetError", "bad rungs", (("name", "east"),)),
    ("BadTakes", "NetError", "bad takes", (("number", 10),)),
    ("Outside", "DialError", "outside", (("dial", "t"), ("at", (7, 2)))),
    ("Barred", "DialError", "barred", (("paper", SET_PAPER),)),
    ("NoBottom", "DialError", "no bottom", (("paper", RING_PAPER),)),
    ("NoPlan", "PaperError", "no plan", (("fault", ("floor", "east", 1)),)),
    ("BadSet", "PaperError", "bad set", ()),
    ("BadRing", "PaperError", "bad ring", ()),
    ("NoNet", "HouseError", "no net", (("name", "mill"),)),
    ("NoMark", "HouseError", "no mark", (("name", "dawn"),)),
    ("NothingThere", "HouseError", "nothing there", (("way", "undo"),)),
)


class RefusalTest(unittest.TestCase):
    def test_word_and_fields(self):
        for name, _, word, fields in REFUSALS:
            with self.subTest(name):
                refusal = getattr(errors, name)(*[given for _, given in fields])
                self.assertEqual(vars(refusal), {"word": word, **dict(fields)})

    def test_fields_may_be_named(self):
        for name, _, _, fields in REFUSALS:
            with self.subTest(name):
                refusal = getattr(errors, name)(**dict(fields))
                for field, given in fields:
                    self.assertEqual(getattr(refusal, field), given)

    def test_family(self):
        for name, family, _, fields in REFUSALS:
            with self.subTest(name):
                refusal = getattr(errors, name)(*[given for _, given in fields])
                for other in FAMILIES:
                    self.assertEqual(isinstance(refusal, getattr(errors, other)), other == family)
                self.assertIsInstance(refusal, errors.WeirError)
                self.assertIsInstance(refusal, ValueError)

    def test_families_stand_under_weir_error(self):
        self.assertTrue(issubclass(errors.WeirError, ValueError))
        for family in FAMILIES:
            self.assertEqual(getattr(errors, family).__bases__, (errors.WeirError,))

    def test_no_other_family_and_no_other_refusal(self):
        there = [name for name, _ in inspect.getmembers(errors, inspect.isclass)]
        told = ["WeirError", *FAMILIES, *[row[0] for row in REFUSALS]]
        self.assertEqual(sorted(there), sorted(told))
        for name in there:
            self.assertEqual(getattr(errors, name).__module__, "dialweir.errors")

    def test_raised_and_caught_by_the_root(self):
        for name, _, word, fields in REFUSALS:
            with self.subTest(name), self.assertRaises(errors.WeirError) as caught:
                raise getattr(errors, name)(*[given for _, given in fields])
            self.assertEqual(caught.exception.word, word)


class PaperTest(unittest.TestCase):
    def test_a_set_paper_is_not_kept_itself(self):
        places = [("mill", 1, "door")]
        refusal = errors.Barred(("out", places))
        places.append(("mill", 1, "hall"))
        self.assertEqual(refusal.paper, ("out", [("mill", 1, "door")]))

    def test_a_ring_paper_is_not_kept_itself(self):
        ring = [("east", 1)]
        refusal = errors.NoBottom(ring)
        self.assertFalse([part for part in refusal.args if part is ring])
        ring.clear()
        self.assertEqual(refusal.paper, [("east", 1)])

    def test_a_handed_paper_is_not_changed_through_the_refusal(self):
        ring = [("east", 1)]
        errors.NoBottom(ring).paper.clear()
        places = [("mill", 1, "door")]
        errors.Barred(("in", places)).paper[1].clear()
        self.assertEqual((ring, places), ([("east", 1)], [("mill", 1, "door")]))


if __name__ == "__main__":
    unittest.main()
