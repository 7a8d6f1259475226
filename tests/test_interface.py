"""The interface: each name stands in its file, with the arguments that the document gives it."""

import importlib
import inspect
import unittest

FUNCTIONS = {
    "posts": {
        "is_posts": "(value)",
        "line_length": "(posts)",
        "count_right": "(posts)",
        "sum_right": "(posts)",
        "side_at": "(posts, place)",
        "place_of": "(posts, side, index)",
    },
    "walks": {
        "exit_end": "(posts, place)",
        "posts_after": "(posts, place)",
        "count_steps": "(posts, place)",
        "walked": "(posts, *places)",
        "named_ends": "(posts, **walkers)",
    },
}


class Interface(unittest.TestCase):

    def test_functions(self):
        for file, functions in FUNCTIONS.items():
            module = importlib.import_module(f"swingposts.{file}")
            for name, arguments in functions.items():
                function = getattr(module, name)
                self.assertTrue(inspect.isfunction(function), name)
                self.assertEqual(function.__module__, f"swingposts.{file}")
                self.assertEqual(str(inspect.signature(function)), arguments, name)


if __name__ == "__main__":
    unittest.main()
