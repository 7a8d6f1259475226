"""The interface: each name stands in its file, with the arguments that the document gives it."""

import importlib
import inspect
import unittest

FUNCTIONS = {
    "posts": {
        "is_posts": "(value)",
        "line_length": "(posts)",
        "count_right": "(posts)",
        "sum_right": "(posts)",
        "side_at": "(posts, place)",
        "place_of": "(posts, side, index)",
    },
    "walks": {
        "exit_end": "(posts, place)",
        "posts_after": "(posts, place)",
        "count_steps": "(posts, place)",
        "walked": "(posts, *places)",
        "named_ends": "(posts, **walkers)",
    },
    "paths": {
        "path": "(posts, place)",
        "place_after": "(posts, place, steps)",
        "count_visits": "(posts, place, post)",
        "farthest": "(posts, place)",
    },
    "crowds": {
        "after_crowd": "(posts, crowd)",
        "crowd_steps": "(posts, crowd)",
    },
    "streams": {
        "nth_exit": "(posts, place, index)",
        "nth_leaver": "(posts, place, end, index)",
        "is_settled": "(posts)",
        "walkers_to_settle": "(posts, place)",
        "period": "(posts, place)",
    },
    "lengths": {
        "step_range": "(length, right, place)",
        "posts_with_steps": "(length, right, place, steps)",
    },
    "exits": {
        "possible_rights": "(length, seen)",
        "contradiction": "(length, seen)",
        "next_end": "(length, seen, place)",
    },
    "reaching": {
        "can_become": "(posts, goal)",
        "walkers_to": "(posts, goal)",
        "why_not_become": "(posts, goal)",
        "count_reachable": "(posts)",
        "nth_reachable": "(posts, index)",
        "reachable": "(posts)",
    },
    "before": {
        "can_be_before": "(posts, place)",
        "count_before": "(posts, place)",
        "count_all_before": "(posts)",
        "nth_before": "(posts, place, index)",
    },
    "pairs": {
        "same_exits": "(posts, other)",
        "equal_after": "(posts, other, crowd)",
        "place_to_merge": "(posts, other)",
    },
    "texts": {
        "format_posts": "(posts)",
        "format_crowd": "(crowd)",
        "format_exits": "(seen)",
        "parse_posts": "(text)",
        "parse_crowd": "(text)",
        "parse_exits": "(text)",
    },
}


CLASSES = {
    "live": {
        "LiveLine": {
            "__init__": "(self, posts)",
            "walk": "(self, place)",
            "undo": "(self)",
            "try_walks": "(self, *places)",
            "told": "(self)",
            "begin": "(self, posts)",
            "__len__": "(self)",
        },
    },
    "kinds": {
        "LimitedLine": {"__init__": "(self, posts, limit=10)", "told": "(self)"},
        "TollLine": {"__init__": "(self, posts, toll=1)", "told": "(self)"},
        "LimitedTollLine": {"__init__": "(self, posts, limit=10, toll=1)", "told": "(self)"},
    },
}


class Interface(unittest.TestCase):

    def test_functions(self):
        for file, functions in FUNCTIONS.items():
            module = importlib.import_module(f"swingposts.{file}")
            for name, arguments in functions.items():
                function = getattr(module, name)
                self.assertTrue(inspect.isfunction(function), name)
                self.assertEqual(function.__module__, f"swingposts.{file}")
                self.assertEqual(str(inspect.signature(function)), arguments, name)

    def test_classes(self):
        for file, classes in CLASSES.items():
            module = importlib.import_module(f"swingposts.{file}")
            for name, methods in classes.items():
                kind = getattr(module, name)
                self.assertTrue(inspect.isclass(kind), name)
                self.assertEqual(kind.__module__, f"swingposts.{file}")
                for method, arguments in methods.items():
                    self.assertEqual(str(inspect.signature(vars(kind)[method])), arguments, (name, method))

    def test_other_names_of_classes(self):
        live = vars(importlib.import_module("swingposts.live").LiveLine)
        for name in ("now", "right_now", "steps_made", "ends_seen"):
            self.assertIsInstance(live[name], property)
        self.assertIsInstance(vars(importlib.import_module("swingposts.kinds").TollLine)["due"], property)
        self.assertEqual(live["ENDS"], ("L", "R"))
        self.assertIsInstance(live["read"], classmethod)
        self.assertEqual(str(inspect.signature(live["read"].__func__)), "(cls, text)")
        self.assertIsInstance(live["is_valid"], staticmethod)
        self.assertEqual(str(inspect.signature(live["is_valid"].__func__)), "(value)")

    def test_generators(self):
        for file, name in (("paths", "path"), ("reaching", "reachable")):
            function = getattr(importlib.import_module(f"swingposts.{file}"), name)
            self.assertTrue(inspect.isgeneratorfunction(function), name)


if __name__ == "__main__":
    unittest.main()
