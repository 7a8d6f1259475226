"""Point [3] and the interface: the error classes."""

import unittest

from swingposts import errors

PLAIN = (
    "InvalidPosts", "InvalidPlace", "InvalidSide", "InvalidNumber", "InvalidCrowd", "InvalidExits", "InvalidText",
    "OtherLength", "NotSettled", "NotPossible", "NothingToUndo", "TooManyWalks",
)


class Errors(unittest.TestCase):

    def test_all_classes_stand_in_the_file(self):
        found = {name for name, value in vars(errors).items() if isinstance(value, type)}
        self.assertEqual(found, {"PostError", "TooLarge", *PLAIN})
        for name in found:
            self.assertEqual(getattr(errors, name).__module__, "swingposts.errors")

    def test_post_error_is_a_value_error(self):
        self.assertEqual(errors.PostError.__bases__, (ValueError,))

    def test_each_class_is_directly_below_post_error(self):
        for name in (*PLAIN, "TooLarge"):
            self.assertEqual(getattr(errors, name).__bases__, (errors.PostError,), name)

    def test_plain_errors_take_no_arguments(self):
        for name in PLAIN:
            with self.assertRaises(errors.PostError) as caught:
                raise getattr(errors, name)()
            self.assertIs(type(caught.exception), getattr(errors, name))

    def test_too_large_has_its_limit(self):
        self.assertEqual(errors.TooLarge(200).limit, 200)
        self.assertEqual(errors.TooLarge(limit=7).limit, 7)
        with self.assertRaises(ValueError) as caught:
            raise errors.TooLarge(10 ** 40)
        self.assertEqual(caught.exception.limit, 10 ** 40)

    def test_too_large_takes_exactly_a_limit(self):
        with self.assertRaises(TypeError):
            errors.TooLarge()
        with self.assertRaises(TypeError):
            errors.TooLarge(1, 2)


if __name__ == "__main__":
    unittest.main()
