"""Points [5], [7], [8], [11] and [12]: walks of one walker, and of several one after another."""

import itertools
import unittest

from swingposts.errors import InvalidPlace, InvalidPosts
from swingposts.posts import count_right, is_posts, line_length, sum_right
from swingposts.walks import count_steps, exit_end, named_ends, posts_after, walked

from tests.helpers import ErrorCase, all_walks, small_lines, to_posts, to_text, walk, walk_end
from tests.test_posts import LRL, NO_PLACES, NO_POSTS


class StepByStep(unittest.TestCase):

    def test_end_posts_and_steps(self):
        for text, place in all_walks(9):
            posts = to_posts(text)
            places, after = walk(text, place)
            self.assertEqual(exit_end(posts, place), walk_end(text, place), (text, place))
            self.assertEqual(posts_after(posts, place), to_posts(after), (text, place))
            self.assertEqual(count_steps(posts, place), len(places) - 1, (text, place))

    def test_walked(self):
        for text in small_lines(4):
            for places in itertools.product(range(1, len(text) + 1), repeat=3):
                now, ends = text, []
                for place in places:
                    ends.append(walk_end(now, place))
                    now = walk(now, place)[1]
                self.assertEqual(walked(to_posts(text), *places), (to_posts(now), ends))
                names = dict(zip("cab", places))
                self.assertEqual(list(named_ends(to_posts(text), **names).items()), list(zip("cab", ends)))

    def test_a_walk_always_ends_at_an_end_of_the_line(self):
        for text, place in all_walks(8):
            last = place + count_right(to_posts(text)) - count_right(posts_after(to_posts(text), place))
            self.assertEqual(last, 0 if exit_end(to_posts(text), place) == "L" else len(text) + 1)


class Theory(unittest.TestCase):

    def test_the_end_is_known_from_right_posts_and_place(self):
        for text, place in all_walks(8):
            leaves_right = text.count("R") + place >= len(text) + 1
            self.assertEqual(exit_end(to_posts(text), place), "R" if leaves_right else "L")

    def test_which_posts_are_different(self):
        for text, place in all_walks(8):
            after = to_text(posts_after(to_posts(text), place))
            swung = [at for at in range(len(text)) if text[at] != after[at]]
            left = [at for at in range(len(text)) if text[at] == "L"]
            right = [at for at in range(len(text)) if text[at] == "R"]
            leaves_left = exit_end(to_posts(text), place) == "L"
            self.assertEqual(swung, left[:place] if leaves_left else right[-(len(text) + 1 - place):])

    def test_what_grows_with_each_step(self):
        for text, place in all_walks(7):
            posts, after = to_posts(text), posts_after(to_posts(text), place)
            last = 0 if exit_end(posts, place) == "L" else line_length(posts)
            self.assertEqual(place + count_right(posts), last + count_right(after))
            grown = last * last + 2 * sum_right(after) - place * place - 2 * sum_right(posts)
            self.assertEqual(count_steps(posts, place), grown)


class OneWalk(ErrorCase):

    def test_one_post(self):
        self.assertEqual(exit_end((("L", 1),), 1), "L")
        self.assertEqual(posts_after((("L", 1),), 1), (("R", 1),))
        self.assertEqual(exit_end((("R", 1),), 1), "R")
        self.assertEqual(posts_after((("R", 1),), 1), (("L", 1),))
        self.assertEqual(count_steps((("R", 1),), 1), 1)

    def test_first_and_last_place(self):
        posts = (("R", 1), ("L", 2), ("R", 1))
        self.assertEqual([exit_end(posts, 1), exit_end(posts, 4)], ["L", "R"])
        self.assertEqual(posts_after(posts, 1), (("R", 2), ("L", 1), ("R", 1)))
        self.assertEqual(posts_after(posts, 4), (("R", 1), ("L", 3)))
        self.assertEqual([count_steps(posts, 1), count_steps(posts, 4)], [3, 1])

    def test_results_are_posts(self):
        for text, place in all_walks(7):
            self.assertIs(is_posts(posts_after(to_posts(text), place)), True)

    def test_by_name(self):
        self.assertEqual(exit_end(place=2, posts=LRL), "L")
        self.assertEqual(posts_after(LRL, place=2), (("R", 3),))
        self.assertEqual(count_steps(posts=LRL, place=2), 4)

    def test_places_that_are_none(self):
        for function in (exit_end, posts_after, count_steps):
            for place in NO_PLACES:
                self.assert_error(InvalidPlace, function, LRL, place)

    def test_posts_are_checked_before_the_place(self):
        for function in (exit_end, posts_after, count_steps):
            for value in NO_POSTS:
                self.assert_error(InvalidPosts, function, value, 1)
            for place in NO_PLACES:
                self.assert_error(InvalidPosts, function, (), place)
                self.assert_error(InvalidPosts, function, place=place, posts=(("R", 1), ("R", 1)))


class Walked(ErrorCase):

    def test_no_places(self):
        self.assertEqual(walked(LRL), (LRL, []))
        self.assertEqual(walked(posts=LRL), (LRL, []))

    def test_one_place(self):
        self.assertEqual(walked(LRL, 2), ((("R", 3),), ["L"]))
        self.assertEqual(walked((("R", 3),), 1), ((("L", 3),), ["R"]))

    def test_kinds_of_values(self):
        result = walked(LRL, 2, 2)
        self.assertEqual([type(result), type(result[0]), type(result[1])], [tuple, tuple, list])

    def test_hundreds_of_places(self):
        text, ends = "LRLLRRLRLLRR", []
        places = [(7 * index) % 12 + 1 for index in range(400)]
        now = text
        for place in places:
            ends.append(walk_end(now, place))
            now = walk(now, place)[1]
        self.assertEqual(walked(to_posts(text), *places), (to_posts(now), ends))

    def test_wrong_place_anywhere(self):
        for place in NO_PLACES:
            self.assert_error(InvalidPlace, walked, LRL, place)
            self.assert_error(InvalidPlace, walked, LRL, place, 1, 2)
            self.assert_error(InvalidPlace, walked, LRL, 1, place, 2)
            self.assert_error(InvalidPlace, walked, LRL, 1, 2, place)

    def test_posts_are_checked_first(self):
        for value in NO_POSTS:
            self.assert_error(InvalidPosts, walked, value)
            self.assert_error(InvalidPosts, walked, value, 1)
            self.assert_error(InvalidPosts, walked, value, 0, None)

    def test_lists_are_new_and_arguments_stay(self):
        places = [2, 2]
        first, second = walked(LRL, *places), walked(LRL, *places)
        self.assertIsNot(first[1], second[1])
        self.assertIsNot(walked(LRL)[1], walked(LRL)[1])
        first[1].append("X")
        walked(LRL)[1].append("X")
        self.assertEqual(second, ((("R", 1), ("L", 2)), ["L", "R"]))
        self.assertEqual(walked(LRL, *places), second)
        self.assertEqual(walked(LRL), (LRL, []))
        self.assertEqual(places, [2, 2])


class NamedEnds(ErrorCase):

    def test_no_walkers(self):
        self.assertEqual(named_ends(LRL), {})
        self.assertEqual(named_ends(posts=LRL), {})

    def test_one_walker(self):
        self.assertEqual(named_ends(LRL, ann=2), {"ann": "L"})
        self.assertEqual(named_ends(ann=2, posts=LRL), {"ann": "L"})

    def test_the_order_in_which_they_are_given(self):
        self.assertEqual(list(named_ends(LRL, zoe=2, bob=2, ann=2).items()), [("zoe", "L"), ("bob", "R"), ("ann", "L")])

    def test_names_that_the_program_may_use(self):
        names = (
            "place", "places", "walkers", "self", "cls", "ends", "end", "now", "name", "value", "side", "index", "args",
            "kwargs", "function", "start", "key", "class", "two words", "",
        )
        for name in names:
            self.assertEqual(named_ends(LRL, **{name: 2}), {name: "L"})
        together = named_ends(LRL, **{name: 2 for name in names})
        self.assertEqual(list(together), list(names))
        self.assertEqual(list(together.values()), walked(LRL, *[2 for name in names])[1])

    def test_posts_cannot_be_a_name(self):
        with self.assertRaises(TypeError):
            named_ends(LRL, **{"posts": 2})

    def test_wrong_place_anywhere(self):
        for place in NO_PLACES:
            self.assert_error(InvalidPlace, named_ends, LRL, ann=place)
            self.assert_error(InvalidPlace, named_ends, LRL, ann=place, bob=1)
            self.assert_error(InvalidPlace, named_ends, LRL, ann=1, bob=place)

    def test_posts_are_checked_first(self):
        for value in NO_POSTS:
            self.assert_error(InvalidPosts, named_ends, value)
            self.assert_error(InvalidPosts, named_ends, value, ann=1)
            self.assert_error(InvalidPosts, named_ends, value, ann=0, bob=None)

    def test_dicts_are_new_and_arguments_stay(self):
        walkers = {"bob": 2, "ann": 2}
        first, second = named_ends(LRL, **walkers), named_ends(LRL, **walkers)
        self.assertIsNot(first, second)
        first["bob"] = "X"
        self.assertEqual(second, {"bob": "L", "ann": "R"})
        self.assertEqual(named_ends(LRL, **walkers), second)
        self.assertEqual(list(walkers.items()), [("bob", 2), ("ann", 2)])


if __name__ == "__main__":
    unittest.main()
