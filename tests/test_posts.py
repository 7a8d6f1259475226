"""Points [4], [6], [9] and [10]: posts, their numbers, sides and places."""

import unittest

from swingposts.errors import InvalidNumber, InvalidPlace, InvalidPosts, InvalidSide
from swingposts.posts import count_right, is_posts, line_length, place_of, side_at, sum_right

from tests.helpers import ErrorCase, Unfriendly, small_lines, to_posts

LRL = (("L", 1), ("R", 1), ("L", 1))

NO_POSTS = (
    None, True, False, 0, 1, 2.5, "", "L", "L1", "L1 R1", b"L", [], {}, set(), object(), len, int, Unfriendly(),
    (), [("L", 1)], {("L", 1)}, {("L", 1): 1}, frozenset([("L", 1)]), (run for run in LRL), iter(LRL), range(3),
    ("L", 1), ("L",), (1,), (None,), ((),), ("L1",), ("LR",), ("L", "R"), (Unfriendly(),),
    (["L", 1],), (["L", 1], ("R", 1)), (("L", 1), ["R", 1]), ({"L": 1},), ({"L", 1},),
    (("L",),), (("L", 1, 1),), ((1,),), ((("L", 1),),), (("L", 1), ()), (("L", 1), None),
    (("L", 0),), (("L", -1),), (("L", -10 ** 40),), (("L", 1), ("R", 0)), (("L", 1), ("R", 0), ("L", 1)),
    (("L", True),), (("L", False),), (("L", 1.0),), (("L", "1"),), (("L", None),), (("L", [1]),), (("L", (1,)),),
    (("L", Unfriendly()),), ((Unfriendly(), 1),),
    (("l", 1),), (("r", 1),), (("", 1),), (("LR", 1),), (("L ", 1),), (("X", 1),), ((b"L", 1),), ((0, 1),), ((1, "L"),),
    ((None, 1),), ((True, 1),), ((["L"], 1),), ((("L",), 1),), (({}, 1),),
    (("L", 1), ("L", 2)), (("R", 1), ("R", 1)), (("L", 1), ("R", 1), ("R", 1)), (("L", 1), ("L", 1), ("R", 1)),
    (("L", 1), ("R", 1), ("L", 1), ("L", 1), ("R", 1)),
)

NO_PLACES = (0, 4, 5, -1, 10 ** 80, -10 ** 80, True, False, 1.0, 2.0, "2", "", b"2", None, [2], (2,), {2}, Unfriendly())
NO_SIDES = ("", "l", "r", "LR", "RL", "L ", "X", b"L", 0, 1, -1, True, False, None, ["L"], ("L",), {"L"}, Unfriendly())
NO_INDEXES = (-1, -10 ** 80, True, False, 0.0, 1.0, "0", "", b"0", None, [0], (0,), Unfriendly())


class IsPosts(unittest.TestCase):

    def test_posts(self):
        for value in ((("L", 1),), (("R", 1),), (("L", 10 ** 80),), LRL, (("R", 2), ("L", 3)), LRL * 1, (LRL + LRL[1:])):
            self.assertIs(is_posts(value), True, value)

    def test_all_small_lines(self):
        for text in small_lines(7):
            self.assertIs(is_posts(to_posts(text)), True)

    def test_many_runs(self):
        runs = (("L", 1), ("R", 2)) * 500
        self.assertIs(is_posts(runs), True)
        self.assertIs(is_posts(runs + (("R", 1),)), False)

    def test_other_values(self):
        for value in NO_POSTS:
            self.assertIs(is_posts(value), False, type(value))

    def test_by_name(self):
        self.assertIs(is_posts(value=LRL), True)

    def test_does_not_change_its_argument(self):
        value = [["L", 1], ["R", 1]]
        is_posts(value)
        self.assertEqual(value, [["L", 1], ["R", 1]])


class Numbers(ErrorCase):

    def test_small_lines(self):
        for text in small_lines(8):
            posts = to_posts(text)
            right = [place for place, side in enumerate(text, start=1) if side == "R"]
            self.assertEqual(line_length(posts), len(text) + 1)
            self.assertEqual(count_right(posts), len(right))
            self.assertEqual(sum_right(posts), sum(right))

    def test_by_name(self):
        self.assertEqual((line_length(posts=LRL), count_right(posts=LRL), sum_right(posts=LRL)), (4, 1, 2))

    def test_other_values(self):
        for value in NO_POSTS:
            for function in (line_length, count_right, sum_right):
                self.assert_error(InvalidPosts, function, value)


class SideAt(ErrorCase):

    def test_small_lines(self):
        for text in small_lines(8):
            for place, side in enumerate(text, start=1):
                self.assertEqual(side_at(to_posts(text), place), side)

    def test_by_name(self):
        self.assertEqual(side_at(place=2, posts=LRL), "R")
        self.assertEqual(side_at(LRL, place=3), "L")

    def test_first_and_last_place(self):
        self.assertEqual(side_at((("L", 2), ("R", 1)), 1), "L")
        self.assertEqual(side_at((("L", 2), ("R", 1)), 2), "L")
        self.assertEqual(side_at((("L", 2), ("R", 1)), 3), "R")
        self.assert_error(InvalidPlace, side_at, (("L", 2), ("R", 1)), 0)
        self.assert_error(InvalidPlace, side_at, (("L", 2), ("R", 1)), 4)

    def test_places_that_are_none(self):
        for place in NO_PLACES:
            self.assert_error(InvalidPlace, side_at, LRL, place)

    def test_posts_are_checked_before_the_place(self):
        for value in NO_POSTS:
            self.assert_error(InvalidPosts, side_at, value, 1)
        for place in NO_PLACES:
            self.assert_error(InvalidPosts, side_at, (("L", 1), ("L", 2)), place)
            self.assert_error(InvalidPosts, side_at, place=place, posts=[("L", 1)])


class PlaceOf(ErrorCase):

    def test_small_lines(self):
        for text in small_lines(8):
            for side in "LR":
                places = [place for place, other in enumerate(text, start=1) if other == side]
                found = [place_of(to_posts(text), side, index) for index in range(len(text) + 2)]
                self.assertEqual(found, places + [None] * (len(text) + 2 - len(places)))

    def test_by_name(self):
        self.assertEqual(place_of(index=1, side="L", posts=LRL), 3)
        self.assertEqual(place_of(LRL, "R", index=0), 2)

    def test_not_so_many(self):
        self.assertIsNone(place_of(LRL, "R", 1))
        self.assertIsNone(place_of(LRL, "L", 2))
        self.assertIsNone(place_of(LRL, "L", 10 ** 80))
        self.assertIsNone(place_of((("L", 5),), "R", 0))

    def test_sides_that_are_none(self):
        for side in NO_SIDES:
            self.assert_error(InvalidSide, place_of, LRL, side, 0)

    def test_indexes_that_are_none(self):
        for index in NO_INDEXES:
            self.assert_error(InvalidNumber, place_of, LRL, "L", index)

    def test_order_of_errors(self):
        for value in NO_POSTS:
            self.assert_error(InvalidPosts, place_of, value, "L", 0)
        for side in NO_SIDES:
            self.assert_error(InvalidPosts, place_of, (), side, 0)
            self.assert_error(InvalidPosts, place_of, (), side, -1)
            self.assert_error(InvalidSide, place_of, LRL, side, -1)
            self.assert_error(InvalidSide, place_of, index=None, side=side, posts=LRL)
        for index in NO_INDEXES:
            self.assert_error(InvalidPosts, place_of, (), "L", index)
            self.assert_error(InvalidSide, place_of, LRL, "X", index)


if __name__ == "__main__":
    unittest.main()
