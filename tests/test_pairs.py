"""Point [25]: two lines."""

import itertools
import random
import unittest

from swingposts.crowds import after_crowd
from swingposts.errors import InvalidCrowd, InvalidPosts, OtherLength
from swingposts.pairs import equal_after, place_to_merge, same_exits
from swingposts.posts import count_right, line_length
from swingposts.walks import exit_end, posts_after, walked

from tests.helpers import (
    MIRRORED, SHORT, TIMES, ErrorCase, let_walk, longer, mirror_posts, mirror_text, texts_of, time_limit, to_posts,
    walk,
)
from tests.test_crowds import NO_CROWDS
from tests.test_posts import LRL, NO_POSTS

RLL = (("R", 1), ("L", 2))


def text_pairs(most):
    """All pairs of texts of the same number of posts, up to `most`."""
    for many in range(1, most + 1):
        yield from itertools.product(texts_of(many), repeat=2)


class AllSmallLines(ErrorCase):

    def test_same_exits(self):
        for text, other in text_pairs(4):
            places = range(1, len(text) + 1)
            walkers = [one for many in range(4) for one in itertools.product(places, repeat=many)]
            expected = all(let_walk(text, one)[1] == let_walk(other, one)[1] for one in walkers)
            self.assertIs(same_exits(to_posts(text), to_posts(other)), expected, (text, other))

    def test_equal_after(self):
        for text, other in text_pairs(3):
            blocks = list(itertools.product(range(1, len(text) + 1), range(3)))
            for many in range(3):
                for crowd in itertools.product(blocks, repeat=many):
                    places = [place for place, count in crowd for _ in range(count)]
                    expected = let_walk(text, places)[0] == let_walk(other, places)[0]
                    found = equal_after(to_posts(text), to_posts(other), list(crowd))
                    self.assertIs(found, expected, (text, other, crowd))

    def test_equal_after_one_block(self):
        for text, other in text_pairs(5):
            if text.count("R") != other.count("R"):
                continue
            for place in range(1, len(text) + 1):
                for count in range(1, 7, 2):
                    expected = let_walk(text, [place] * count)[0] == let_walk(other, [place] * count)[0]
                    found = equal_after(to_posts(text), to_posts(other), [(place, count)])
                    self.assertIs(found, expected, (text, other, place, count))

    def test_place_to_merge(self):
        for text, other in text_pairs(6):
            places = [at for at in range(1, len(text) + 1) if walk(text, at)[1] == walk(other, at)[1]]
            found = place_to_merge(to_posts(text), to_posts(other))
            self.assertEqual(found, min(places, default=None), (text, other))

    def test_in_the_other_order_and_mirrored(self):
        for text, other in text_pairs(4):
            one, two = to_posts(text), to_posts(other)
            behind = to_posts(mirror_text(text)), to_posts(mirror_text(other))
            crowd = [(1, 2), (len(text), 1)]
            mirrored = [(len(text), 2), (1, 1)]
            self.assertIs(same_exits(two, one), same_exits(one, two))
            self.assertIs(same_exits(*behind), same_exits(one, two))
            self.assertEqual(place_to_merge(two, one), place_to_merge(one, two))
            self.assertEqual(place_to_merge(*behind) is None, place_to_merge(one, two) is None)
            self.assertIs(equal_after(two, one, crowd), equal_after(one, two, crowd))
            self.assertIs(equal_after(*behind, mirrored), equal_after(one, two, crowd))


class Pairs(ErrorCase):

    def test_equal_lines(self):
        for posts in ((("L", 1),), (("R", 1),), LRL, longer(SHORT, TIMES)):
            self.assertIs(same_exits(posts, posts), True)
            self.assertIs(equal_after(posts, posts, []), True)
            self.assertIs(equal_after(posts, posts, [(1, 10 ** 80)]), True)
            self.assertEqual(place_to_merge(posts, posts), 1)

    def test_different_lines(self):
        self.assertIs(same_exits((("L", 1),), (("R", 1),)), False)
        self.assertIs(equal_after(LRL, RLL, []), False)
        self.assertIs(equal_after(LRL, RLL, [(1, 0)]), False)
        self.assertIs(equal_after(LRL, RLL, [(1, 1)]), True)
        self.assertIsNone(place_to_merge(LRL, (("L", 3),)))
        self.assertEqual(place_to_merge(LRL, RLL), 1)

    def test_by_name(self):
        self.assertIs(same_exits(other=RLL, posts=LRL), True)
        self.assertIs(equal_after(crowd=[(1, 1)], other=RLL, posts=LRL), True)
        self.assertEqual(place_to_merge(other=LRL, posts=(("L", 2), ("R", 1))), 2)

    def test_arguments_stay_as_they_are(self):
        crowd = [(1, 1), (2, 0)]
        found = equal_after(LRL, RLL, crowd)
        self.assertEqual(crowd, [(1, 1), (2, 0)])
        crowd.clear()
        self.assertIs(equal_after(LRL, RLL, crowd), False)
        self.assertIs(equal_after(LRL, RLL, [(1, 1), (2, 0)]), found)

    def test_values_that_are_no_posts(self):
        calls = (same_exits, place_to_merge, lambda posts, other: equal_after(posts, other, None))
        for function in calls:
            for value in NO_POSTS:
                self.assert_error(InvalidPosts, function, value, LRL)
                self.assert_error(InvalidPosts, function, LRL, value)
                self.assert_error(InvalidPosts, function, (("L", 9),), value)
                self.assert_error(InvalidPosts, function, value, value)
                self.assert_error(InvalidPosts, function, other=value, posts=LRL)

    def test_other_lengths(self):
        calls = (same_exits, place_to_merge, lambda posts, other: equal_after(posts, other, None))
        for function in calls:
            self.assert_error(OtherLength, function, LRL, (("L", 2),))
            self.assert_error(OtherLength, function, LRL, (("L", 1), ("R", 1), ("L", 2)))
            self.assert_error(OtherLength, function, (("L", 10 ** 33),), (("L", 10 ** 33 - 1),))
            self.assert_error(OtherLength, function, other=LRL, posts=(("R", 4),))

    def test_crowds_that_are_none(self):
        for crowd in NO_CROWDS:
            self.assert_error(InvalidCrowd, equal_after, LRL, RLL, crowd)
            self.assert_error(InvalidCrowd, equal_after, LRL, (("R", 3),), crowd)
            self.assert_error(OtherLength, equal_after, LRL, (("R", 2),), crowd)
            self.assert_error(OtherLength, equal_after, crowd=crowd, other=(("R", 4),), posts=LRL)
            self.assert_error(InvalidPosts, equal_after, LRL, (), crowd)
            self.assert_error(InvalidPosts, equal_after, (), LRL, crowd)


class Large(ErrorCase):

    def setUp(self):
        self.enterContext(time_limit(60))

    def some_pairs(self):
        """Pairs of long lines with as many right posts."""
        chance = random.Random(25)
        for posts in (longer(SHORT, TIMES), longer(MIRRORED, TIMES)):
            many, right = line_length(posts) - 1, count_right(posts)
            yield posts, (("R", right), ("L", many - right))
            yield posts, (("L", many - right), ("R", right))
            yield (("L", 1), ("R", right), ("L", many - right - 1)), (("R", right), ("L", many - right))
            places = [chance.randint(1, many) for _ in range(3)]
            other = walked(posts, *places)[0]
            rest = (right - count_right(other)) % (many + 1)
            yield posts, posts_after(other, rest) if rest else other

    def test_place_to_merge(self):
        for posts, other in self.some_pairs():
            self.assertNotEqual(posts, other)
            place = place_to_merge(posts, other)
            self.assertEqual(posts_after(posts, place), posts_after(other, place))
            self.assertEqual(place_to_merge(other, posts), place)
            for smaller in (place - 1, place - 10 ** 20, place // 2, 1):
                if 1 <= smaller < place:
                    self.assertNotEqual(posts_after(posts, smaller), posts_after(other, smaller))
                    self.assertIs(equal_after(posts, other, [(smaller, 1)]), False)
            self.assertIs(equal_after(posts, other, [(place, 1)]), True)
            self.assertIs(equal_after(posts, other, [(1, place), (1, 10 ** 79)]), True)

    def test_same_exits(self):
        for posts, other in self.some_pairs():
            self.assertIs(same_exits(posts, other), True)
            chance = random.Random(1)
            places = [chance.randint(1, line_length(posts) - 1) for _ in range(50)]
            self.assertEqual(walked(posts, *places)[1], walked(other, *places)[1])
            swung = posts_after(other, 1)
            self.assertIs(same_exits(posts, swung), False)
            self.assertIsNone(place_to_merge(posts, swung))
            border = line_length(posts) - max(count_right(posts), count_right(swung))
            self.assertNotEqual(exit_end(posts, border), exit_end(swung, border))

    def test_equal_after(self):
        for posts, other in self.some_pairs():
            length = line_length(posts)
            for crowd in ([(1, 5)], [(length - 1, TIMES)], [(length // 2, 3), (1, 10 ** 80 - 1)], [(TIMES, 1)] * 100):
                expected = after_crowd(posts, crowd)[0] == after_crowd(other, crowd)[0]
                self.assertIs(equal_after(posts, other, crowd), expected)

    def test_small_pairs_made_longer(self):
        for text, other in text_pairs(4):
            short = place_to_merge(to_posts(text), to_posts(other))
            long = longer(to_posts(text), TIMES), longer(to_posts(other), TIMES)
            if short is None or text == other:
                self.assertEqual(place_to_merge(*long), short)
            else:
                self.assertEqual(place_to_merge(*long), short * TIMES)
            self.assertIs(same_exits(*long), same_exits(to_posts(text), to_posts(other)))
            self.assertIs(same_exits(*map(mirror_posts, long)), same_exits(*long))


if __name__ == "__main__":
    unittest.main()
