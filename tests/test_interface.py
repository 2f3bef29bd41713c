"""The names and the arguments of the interface, each defined in its own file and class."""

import inspect
import unittest

from dialweir import atlas, desk, house, looker, lower, net, rowing, solve, tongue, ways

FUNCTIONS = (
    (rowing, "do_row", "(net, line, *, plain=False)"),
    (rowing, "text_of", "(net)"),
    (tongue, "read_net", "(text)"),
    (lower, "unrolled", "(net)"),
    (lower, "doored", "(spots, wants, rooms, arcs)"),
    (lower, "laid", "(arcs)"),
    (lower, "sunk", "(wants, rows)"),
    (solve, "bar", "(needs, arcs, s)"),
    (solve, "ring_at", "(count, arcs, t)"),
    (solve, "best", "(needs, arcs, s, t, *, s_ahead=False, t_ahead=False)"),
    (looker, "plan_fault", "(net, loads, s)"),
    (looker, "cost", "(net, loads, s, t)"),
    (looker, "prices_fault", "(net, loads, prices, s, t)"),
    (looker, "oblong_fault", "(net, oblong)"),
    (looker, "set_lack", "(net, paper)"),
    (looker, "ring_price", "(net, ring)"),
    (atlas, "reach", "(net)"),
    (atlas, "bottom", "(net)"),
    (ways, "parted", "(net, loads, s)"),
    (ways, "joined", "(net, rows)"),
    (house, "read_page", "(text)"),
)
NET = {
    "__init__": "(self, *, hours=1, s_box=(0, 0), t_box=(0, 0))",
    "place": "(self, name)",
    "want": "(self, place, hour, move=(0, 0))",
    "through": "(self, place, room=None)",
    "store": "(self, place, room=(0, 0), price=(0, 0))",
    "road": "(self, name, start, end, *, takes=0, floor=(0, 0), rungs=((None, (0, 0)),))",
    "change": "(self, name, *, takes=None, floor=None, rungs=None)",
    "box": "(self, *, s=None, t=None)",
    "strike": "(self, name)",
    "rows": "(self, lines)",
    "place_names": "(self)",
    "road_names": "(self)",
    "place_told": "(self, name)",
    "road_told": "(self, name)",
    "parts": "(self)",
    "spots": "(self)",
    "twin": "(self)",
    "__str__": "(self)",
    "__len__": "(self)",
    "__repr__": "(self)",
    "__eq__": "(self, other)",
}
LOWERED = {
    "__init__": "(self, net)",
    "up_plan": "(self, loads)",
    "up_prices": "(self, heights)",
    "up_set": "(self, side, numbers)",
    "up_ring": "(self, numbers)",
}
OBLONG = {
    "__init__": "(self, s_span, t_span, loads, prices, four)",
    "holds": "(self, s, t)",
    "worth_at": "(self, s, t)",
    "__eq__": "(self, other)",
    "__repr__": "(self)",
}
ATLAS = {
    "__init__": "(self, net)",
    "told": "(self)",
    "__len__": "(self)",
    "reach": "(self)",
    "bottom": "(self)",
    "worth": "(self, s, t)",
    "plan": "(self, s, t)",
    "along_s": "(self, t)",
    "along_t": "(self, s)",
    "slopes": "(self, s, t)",
}
HOUSE = {
    "__init__": "(self, *, limit=8)",
    "begin": "(self, name, text)",
    "twin": "(self, name, other)",
    "drop": "(self, name)",
    "edit": "(self, name, lines)",
    "back": "(self, word)",
    "mark": "(self, word)",
    "undo": "(self)",
    "redo": "(self)",
    "names": "(self)",
    "text": "(self, name)",
    "net": "(self, name)",
    "worth": "(self, name, s, t)",
    "span_of": "(self, name)",
    "bottom_of": "(self, name)",
    "page": "(self)",
    "__len__": "(self)",
    "__eq__": "(self, other)",
}
DESK = {"__init__": "(self)", "say": "(self, line)", "log": "(self)"}
CLASSES = (
    (net, "Net", NET), (lower, "Lowered", LOWERED), (atlas, "Oblong", OBLONG), (atlas, "Atlas", ATLAS),
    (house, "House", HOUSE), (desk, "Desk", DESK),
)


class InterfaceTest(unittest.TestCase):
    def test_functions(self):
        for module, name, told in FUNCTIONS:
            with self.subTest(name):
                function = getattr(module, name)
                self.assertEqual(str(inspect.signature(function)), told)
                self.assertEqual(function.__module__, module.__name__)

    def test_classes(self):
        for module, class_name, methods in CLASSES:
            told_class = getattr(module, class_name)
            self.assertEqual(told_class.__module__, module.__name__)
            for name, told in methods.items():
                with self.subTest(f"{class_name}.{name}"):
                    self.assertEqual(str(inspect.signature(vars(told_class)[name])), told)


if __name__ == "__main__":
    unittest.main()
