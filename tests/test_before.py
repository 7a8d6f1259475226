"""Point [24]: posts before a walk."""

import math
import unittest

from swingposts.before import can_be_before, count_all_before, count_before, nth_before
from swingposts.errors import InvalidNumber, InvalidPlace, InvalidPosts, TooLarge
from swingposts.posts import is_posts, line_length
from swingposts.walks import posts_after

from tests.helpers import (
    MIRRORED, SHORT, TIMES, ErrorCase, longer, mirror_posts, mirror_text, texts_of, time_limit, to_posts, to_text, walk,
)
from tests.test_posts import LRL, NO_INDEXES, NO_PLACES, NO_POSTS

RRL = (("R", 2), ("L", 1))
MANY = (("R", 90), ("L", 20), ("R", 1), ("L", 89))


def all_before(many):
    """For each text of so many posts and each place, the texts that a walker from there turns into it, ascending."""
    found = {(text, place): [] for text in texts_of(many) for place in range(1, many + 1)}
    for text in texts_of(many):
        for place in range(1, many + 1):
            found[walk(text, place)[1], place].append(text)
    return found


class AllSmallLines(ErrorCase):

    def test_numbers(self):
        for many in range(1, 9):
            found = all_before(many)
            for (text, place), texts in found.items():
                self.assertEqual(count_before(to_posts(text), place), len(texts), (text, place))
                self.assertIs(can_be_before(to_posts(text), place), len(texts) > 0, (text, place))
            for text in texts_of(many):
                total = sum(len(found[text, place]) for place in range(1, many + 1))
                self.assertEqual(count_all_before(to_posts(text)), total, text)

    def test_nth_before(self):
        for many in range(1, 8):
            for (text, place), texts in all_before(many).items():
                posts = to_posts(text)
                found = [nth_before(posts, place, index) for index in range(len(texts))]
                self.assertEqual(found, [to_posts(other) for other in texts], (text, place))
                for index in (len(texts), len(texts) + 1, 10 ** 79, 10 ** 80 - 1):
                    self.assert_error(InvalidNumber, nth_before, posts, place, index)

    def test_mirrored(self):
        for many in range(1, 7):
            for text in texts_of(many):
                posts, behind = to_posts(text), to_posts(mirror_text(text))
                self.assertEqual(count_all_before(behind), count_all_before(posts))
                for place in range(1, many + 1):
                    other, number = many + 1 - place, count_before(posts, place)
                    self.assertEqual(count_before(behind, other), number)
                    self.assertIs(can_be_before(behind, other), can_be_before(posts, place))
                    found = {mirror_posts(nth_before(posts, place, index)) for index in range(number)}
                    self.assertEqual({nth_before(behind, other, index) for index in range(number)}, found)


class Before(ErrorCase):

    def test_one_post(self):
        for side, before in (("L", "R"), ("R", "L")):
            self.assertEqual(count_before(((side, 1),), 1), 1)
            self.assertEqual(count_all_before(((side, 1),)), 1)
            self.assertEqual(nth_before(((side, 1),), 1, 0), ((before, 1),))

    def test_posts_with_none_before(self):
        posts = (("L", 3), ("R", 3))
        self.assertEqual(count_all_before(posts), 0)
        for place in range(1, 7):
            self.assertEqual(count_before(posts, place), 0)
            self.assertIs(can_be_before(posts, place), False)
            self.assert_error(InvalidNumber, nth_before, posts, place, 0)

    def test_kinds_of_values(self):
        self.assertEqual([type(count_before(RRL, 1)), type(count_all_before(RRL))], [int, int])
        for index in range(count_before(MANY, 3)):
            if index % 10000 == 0:
                self.assertIs(is_posts(nth_before(MANY, 3, index)), True)

    def test_by_name(self):
        self.assertEqual(count_before(place=1, posts=RRL), 2)
        self.assertIs(can_be_before(place=1, posts=RRL), True)
        self.assertEqual(count_all_before(posts=RRL), 4)
        self.assertEqual(nth_before(index=0, place=1, posts=RRL), LRL)

    def test_places_and_indexes_that_are_none(self):
        for place in NO_PLACES:
            self.assert_error(InvalidPlace, count_before, RRL, place)
            self.assert_error(InvalidPlace, can_be_before, RRL, place)
            self.assert_error(InvalidPlace, nth_before, RRL, place, 0)
        for index in NO_INDEXES:
            self.assert_error(InvalidNumber, nth_before, RRL, 1, index)

    def test_values_that_are_no_posts(self):
        for value in NO_POSTS:
            self.assert_error(InvalidPosts, count_all_before, value)
            for place in (1, 0, None):
                self.assert_error(InvalidPosts, count_before, value, place)
                self.assert_error(InvalidPosts, can_be_before, value, place)
                self.assert_error(InvalidPosts, nth_before, value, place, 0)
                self.assert_error(InvalidPosts, nth_before, value, place, -1)

    def test_order_of_errors(self):
        large = (("R", 201),)
        for place in NO_PLACES:
            self.assert_error(InvalidPosts, nth_before, (), place, 0)
            self.assert_error(InvalidPlace, nth_before, RRL, place, -1)
            self.assert_error(InvalidPlace, nth_before, index=None, place=place, posts=RRL)
        for place in (0, 202, -1, True, None, "1"):
            for function in (count_before, can_be_before):
                self.assert_error(InvalidPlace, function, large, place)
            self.assert_error(InvalidPlace, nth_before, large, place, -1)
        for index in NO_INDEXES:
            self.assert_error(InvalidNumber, nth_before, large, 1, index)
        for index in (0, 10 ** 80):
            self.assert_error(TooLarge, nth_before, large, 1, index)
            self.assert_error(TooLarge, nth_before, (("L", 100), ("R", 101)), 1, index)


class Large(ErrorCase):

    def setUp(self):
        self.enterContext(time_limit(60))

    def test_200_posts(self):
        posts = (("R", 200),)
        self.assertEqual([count_before(posts, place) for place in (1, 100, 199, 200)],
                         [200, math.comb(200, 100), 200, 1])
        self.assertEqual(count_all_before(posts), 2 ** 200 - 1)
        self.assertEqual(nth_before(posts, 200, 0), (("L", 200),))
        self.assertEqual(nth_before(posts, 1, 0), (("L", 1), ("R", 199)))
        self.assertEqual(nth_before(posts, 1, 199), (("R", 199), ("L", 1)))
        self.assertEqual(count_all_before((("L", 200),)), 2 ** 200 - 1)
        self.assertEqual(count_all_before(MANY), 2 ** 90 + 2 ** 89 - 2)

    def test_201_posts(self):
        lines = ((("R", 201),), (("L", 201),), (("L", 200), ("R", 1)), (("R", 100), ("L", 101)), longer(SHORT, TIMES))
        for posts in lines:
            calls = (
                lambda: count_before(posts, 1), lambda: count_all_before(posts), lambda: nth_before(posts, 1, 0),
                lambda: nth_before(posts, line_length(posts) - 1, 10 ** 80),
            )
            for call in calls:
                with self.assertRaises(TooLarge) as caught:
                    call()
                self.assertIs(type(caught.exception), TooLarge)
                self.assertEqual(caught.exception.limit, 200)

    def test_can_be_before_for_lines_of_any_length(self):
        for posts in (longer(SHORT, TIMES), longer(MIRRORED, TIMES), (("R", 201),), (("L", 10 ** 33 - 1),)):
            length = line_length(posts)
            leading = posts[0][1] if posts[0][0] == "R" else 0
            trailing = posts[-1][1] if posts[-1][0] == "L" else 0
            for place in (1, leading - 1, leading, leading + 1, length // 2, length - trailing - 1, length - trailing,
                          length - trailing + 1, length - 1):
                if 1 <= place < length:
                    expected = place <= leading or place >= length - trailing
                    self.assertIs(can_be_before(posts, place), expected)

    def test_great_indexes(self):
        for posts in (MANY, mirror_posts(MANY), (("R", 200),), (("R", 1), ("L", 199))):
            for place in (1, 2, 45, 80, 89, 90, 112, 120, 155, 199, 200):
                number = count_before(posts, place)
                self.assertIs(can_be_before(posts, place), number > 0)
                self.assert_error(InvalidNumber, nth_before, posts, place, number)
                some = {0, 1, number // 7, number // 2, number - 2, number - 1}
                texts = []
                for index in sorted(index for index in some if 0 <= index < number):
                    before = nth_before(posts, place, index)
                    self.assertIs(is_posts(before), True)
                    self.assertEqual(posts_after(before, place), posts)
                    texts.append(to_text(before))
                self.assertEqual(texts, sorted(set(texts)))

    def test_neighbouring_indexes(self):
        # Between the texts of two neighbouring indexes no other text that fits may lie, so the last place at which more
        # can be changed decides: the next text of the same letters.
        number = count_before((("R", 60),), 30)
        for index in (0, 1, 5, number // 3, number // 2, number - 2):
            first, second = [to_text(nth_before((("R", 60),), 30, at)) for at in (index, index + 1)]
            turn = max(at for at in range(59) if first[at] == "L" and "R" in first[at + 1:])
            rest = sorted(first[turn:])
            rest.remove("R")
            self.assertEqual(second, first[:turn] + "R" + "".join(rest))


if __name__ == "__main__":
    unittest.main()
