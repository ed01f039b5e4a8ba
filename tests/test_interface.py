"""The interface: every name in its module, with as many arguments as are told, and each method in its class itself."""

import importlib
import inspect
import unittest

FUNCTIONS = {
    "joinings": {"look_at_joining": 1, "is_thing": 2, "joined": 3},
    "tables": {"clash_of": 1, "clash_holds": 2},
    "rows": {"beginnings": 1, "row_joined": 2, "beginnings_told": 2, "window_told": 3},
    "nets": {"look_at_net": 1},
    "spans": {"spans_of": 1, "spans_hold": 2, "tells": 2, "tells_beginnings": 1},
    "telling": {"told": 3, "all_told": 3},
    "levels": {"least_depth": 1, "levels_of": 1, "depth_of": 1, "longest_way": 1, "levels_hold": 2, "way_holds": 2},
    "outs": {"outs_of": 1, "most_out": 1, "lengths_of": 1},
    "trimmed": {"needed": 1, "trimmed": 1},
    "merged": {"merged": 1},
    "papers": {"width_of": 1, "knots_in": 1, "depths_in": 1},
    "building": {"built": 1, "built_holds": 2},
    "rules": {
        "by_steps": 1, "by_one": 1, "by_halves": 1, "by_pairs": 1, "by_twos": 1, "spared": 2, "by_blocks": 2},
    "bounds": {"sum_paper": 1, "sum_holds": 2},
    "cases": {"cases_holds": 5},
    "fewest": {"fewest": 3},
    "turning": {"turned_net": 1},
    "behind": {"behind": 2},
    "windows": {"windows_net": 2, "moving": 2},
    "rounds": {"rounds_of": 2, "rounds_hold": 3, "least_rounds": 2, "rounds_told": 4},
    "parting": {"parted": 2},
    "least": {"fewest_rounds": 2, "prices_hold": 4},
    "texts": {"net_shown": 1, "net_read": 1},
}
# Of each class how many arguments it is made of, and each method's.
CLASSES = {
    "kept": {"Kept": (3, {"told": 0, "knots_told": 0, "change": 2, "joins": 0, "copied": 0})},
    "keptparts": {"KeptParts": (4, {
        "told": 0, "begins": 0, "parts": 0, "change": 2, "begin": 1, "unite": 1, "joins": 0, "copied": 0})},
    "desk": {"Desk": (0, {"say": 1})},
}


class Interface(unittest.TestCase):
    def module(self, name):
        return importlib.import_module("sumnets." + name)

    def places(self, call):
        """How many arguments a call takes by their places."""
        parameters = inspect.signature(call).parameters.values()
        self.assertTrue(all(one.kind is one.POSITIONAL_OR_KEYWORD and one.default is one.empty for one in parameters))
        return len(parameters)

    def test_functions(self):
        for name, functions in FUNCTIONS.items():
            module = self.module(name)
            for word, count in functions.items():
                function = getattr(module, word)
                self.assertTrue(inspect.isfunction(function))
                self.assertEqual(function.__module__, "sumnets." + name)
                self.assertEqual(self.places(function), count)

    def test_classes(self):
        for name, classes in CLASSES.items():
            module = self.module(name)
            for word, (count, methods) in classes.items():
                kind = getattr(module, word)
                self.assertTrue(inspect.isclass(kind))
                self.assertEqual(kind.__module__, "sumnets." + name)
                self.assertEqual(self.places(kind), count)
                for method, places in methods.items():
                    self.assertIn(method, vars(kind))
                    self.assertEqual(self.places(vars(kind)[method]), places + 1)


if __name__ == "__main__":
    unittest.main()
