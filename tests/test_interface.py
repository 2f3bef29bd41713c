"""The names and the arguments of the interface, each defined in its own file and class."""

import inspect
import unittest

from dialweir import net, rowing, tongue

FUNCTIONS = (
    (rowing, "do_row", "(net, line, *, plain=False)"),
    (rowing, "text_of", "(net)"),
    (tongue, "read_net", "(text)"),
)
NET = {
    "__init__": "(self, *, hours=1, s_box=(0, 0), t_box=(0, 0))",
    "place": "(self, name)",
    "want": "(self, place, hour, move=(0, 0))",
    "through": "(self, place, room=None)",
    "store": "(self, place, room=(0, 0), price=(0, 0))",
    "road": "(self, name, start, end, *, takes=0, floor=(0, 0), rungs=((None, (0, 0)),))",
    "change": "(self, name, *, takes=None, floor=None, rungs=None)",
    "box": "(self, *, s=None, t=None)",
    "strike": "(self, name)",
    "rows": "(self, lines)",
    "place_names": "(self)",
    "road_names": "(self)",
    "place_told": "(self, name)",
    "road_told": "(self, name)",
    "parts": "(self)",
    "spots": "(self)",
    "twin": "(self)",
    "__str__": "(self)",
    "__len__": "(self)",
    "__repr__": "(self)",
    "__eq__": "(self, other)",
}


class InterfaceTest(unittest.TestCase):
    def test_functions(self):
        for module, name, told in FUNCTIONS:
            with self.subTest(name):
                function = getattr(module, name)
                self.assertEqual(str(inspect.signature(function)), told)
                self.assertEqual(function.__module__, module.__name__)

    def test_net(self):
        self.assertEqual(net.Net.__module__, "dialweir.net")
        for name, told in NET.items():
            with self.subTest(name):
                self.assertEqual(str(inspect.signature(vars(net.Net)[name])), told)


if __name__ == "__main__":
    unittest.main()
