"""The interface: each name stands in its file, with the arguments that the document gives it."""

import importlib
import inspect
import unittest

FUNCTIONS = {
    "posts": {
        "is_posts": "(value)",
        "line_length": "(posts)",
        "count_right": "(posts)",
        "sum_right": "(posts)",
        "side_at": "(posts, place)",
        "place_of": "(posts, side, index)",
    },
    "walks": {
        "exit_end": "(posts, place)",
        "posts_after": "(posts, place)",
        "count_steps": "(posts, place)",
        "walked": "(posts, *places)",
        "named_ends": "(posts, **walkers)",
    },
    "paths": {
        "path": "(posts, place)",
        "place_after": "(posts, place, steps)",
        "count_visits": "(posts, place, post)",
        "farthest": "(posts, place)",
    },
    "crowds": {
        "after_crowd": "(posts, crowd)",
        "crowd_steps": "(posts, crowd)",
    },
    "streams": {
        "nth_exit": "(posts, place, index)",
        "nth_leaver": "(posts, place, end, index)",
        "is_settled": "(posts)",
        "walkers_to_settle": "(posts, place)",
        "period": "(posts, place)",
    },
    "lengths": {
        "step_range": "(length, right, place)",
        "posts_with_steps": "(length, right, place, steps)",
    },
    "exits": {
        "possible_rights": "(length, seen)",
        "contradiction": "(length, seen)",
        "next_end": "(length, seen, place)",
    },
    "reaching": {
        "can_become": "(posts, goal)",
        "walkers_to": "(posts, goal)",
        "why_not_become": "(posts, goal)",
        "count_reachable": "(posts)",
        "nth_reachable": "(posts, index)",
        "reachable": "(posts)",
    },
    "before": {
        "can_be_before": "(posts, place)",
        "count_before": "(posts, place)",
        "count_all_before": "(posts)",
        "nth_before": "(posts, place, index)",
    },
}


class Interface(unittest.TestCase):

    def test_functions(self):
        for file, functions in FUNCTIONS.items():
            module = importlib.import_module(f"swingposts.{file}")
            for name, arguments in functions.items():
                function = getattr(module, name)
                self.assertTrue(inspect.isfunction(function), name)
                self.assertEqual(function.__module__, f"swingposts.{file}")
                self.assertEqual(str(inspect.signature(function)), arguments, name)

    def test_generators(self):
        for file, name in (("paths", "path"), ("reaching", "reachable")):
            function = getattr(importlib.import_module(f"swingposts.{file}"), name)
            self.assertTrue(inspect.isgeneratorfunction(function), name)


if __name__ == "__main__":
    unittest.main()
