"""Points [18] and [19]: walkers that start one after another from one place."""

import random
import unittest

from swingposts.crowds import after_crowd, crowd_steps
from swingposts.errors import InvalidNumber, InvalidPlace, InvalidPosts, InvalidSide, NotSettled
from swingposts.posts import line_length
from swingposts.streams import is_settled, nth_exit, nth_leaver, period, walkers_to_settle
from swingposts.walks import exit_end, posts_after

from tests.helpers import (
    MIRRORED, SHORT, TIMES, ErrorCase, all_walks, let_walk, longer, mirror_posts, small_lines, text_is_settled,
    time_limit, to_posts, to_text,
)
from tests.test_posts import LRL, NO_INDEXES, NO_PLACES, NO_POSTS, NO_SIDES

RLL = (("R", 1), ("L", 2))


class StepByStep(ErrorCase):

    def test_nth_exit(self):
        for text, place in all_walks(7):
            ends = let_walk(text, [place] * 20)[1]
            self.assertEqual([nth_exit(to_posts(text), place, index) for index in range(20)], ends, (text, place))

    def test_nth_leaver(self):
        for text, place in all_walks(6):
            ends = let_walk(text, [place] * 40)[1]
            for end in "LR":
                leavers = [index for index, other in enumerate(ends) if other == end]
                self.assertGreater(len(leavers), 4)
                found = [nth_leaver(to_posts(text), place, end, index) for index in range(len(leavers))]
                self.assertEqual(found, leavers, (text, place, end))

    def test_is_settled(self):
        for text in small_lines(9):
            self.assertIs(is_settled(to_posts(text)), text_is_settled(text), text)

    def test_walkers_to_settle(self):
        for text, place in all_walks(9):
            now, walkers = text, 0
            while not text_is_settled(now):
                now = let_walk(now, [place])[0]
                walkers += 1
            self.assertEqual(walkers_to_settle(to_posts(text), place), walkers, (text, place))

    def test_walkers_to_settle_on_longer_lines(self):
        some = (("L", 25), ("R", 25)), (("L", 3), ("R", 40), ("L", 5), ("R", 1))
        for posts in (longer(SHORT, 2), longer(MIRRORED, 2), *some):
            text = to_text(posts)
            for place in (1, 2, 3, len(text) // 3, len(text) // 2, len(text) - 2, len(text) - 1, len(text)):
                now, walkers = text, 0
                while not text_is_settled(now):
                    now = let_walk(now, [place])[0]
                    walkers += 1
                self.assertEqual(walkers_to_settle(posts, place), walkers)

    def test_period(self):
        for text, place in all_walks(9):
            if text_is_settled(text):
                now, ends, steps = let_walk(text, [place])
                while now != text:
                    now, more_ends, more_steps = let_walk(now, [place])
                    ends, steps = ends + more_ends, steps + more_steps
                expected = (len(ends), ends.count("R"), steps)
                self.assertEqual(period(to_posts(text), place), expected, (text, place))


class Exits(ErrorCase):

    def test_the_first_one_is_a_walk(self):
        for text, place in all_walks(6):
            self.assertEqual(nth_exit(to_posts(text), place, 0), exit_end(to_posts(text), place))

    def test_by_name(self):
        self.assertEqual(nth_exit(index=1, place=2, posts=LRL), "R")
        self.assertEqual(nth_exit(LRL, 2, index=0), "L")

    def test_errors_of_nth_exit(self):
        for place in NO_PLACES:
            self.assert_error(InvalidPlace, nth_exit, LRL, place, 0)
        for index in NO_INDEXES:
            self.assert_error(InvalidNumber, nth_exit, LRL, 1, index)

    def test_order_of_errors_of_nth_exit(self):
        for value in NO_POSTS:
            self.assert_error(InvalidPosts, nth_exit, value, 1, 0)
            self.assert_error(InvalidPosts, nth_exit, value, 0, -1)
        for place in NO_PLACES:
            self.assert_error(InvalidPosts, nth_exit, (), place, 0)
            self.assert_error(InvalidPlace, nth_exit, LRL, place, -1)
            self.assert_error(InvalidPlace, nth_exit, index=None, place=place, posts=LRL)


class Leavers(ErrorCase):

    def test_one_post(self):
        self.assertEqual([nth_leaver((("L", 1),), 1, "L", index) for index in range(4)], [0, 2, 4, 6])
        self.assertEqual([nth_leaver((("L", 1),), 1, "R", index) for index in range(4)], [1, 3, 5, 7])

    def test_from_the_first_and_the_last_place(self):
        posts = (("L", 9),)
        self.assertEqual([nth_leaver(posts, 1, "R", index) for index in range(3)], [9, 19, 29])
        self.assertEqual([nth_leaver(posts, 9, "L", index) for index in range(3)], [0, 10, 20])

    def test_by_name(self):
        self.assertEqual(nth_leaver(index=0, end="R", place=2, posts=LRL), 1)
        self.assertEqual(nth_leaver(LRL, 2, "L", index=1), 2)

    def test_errors(self):
        for place in NO_PLACES:
            self.assert_error(InvalidPlace, nth_leaver, LRL, place, "L", 0)
        for end in NO_SIDES:
            self.assert_error(InvalidSide, nth_leaver, LRL, 1, end, 0)
        for index in NO_INDEXES:
            for end in "LR":
                self.assert_error(InvalidNumber, nth_leaver, LRL, 1, end, index)

    def test_order_of_errors(self):
        for value in NO_POSTS:
            self.assert_error(InvalidPosts, nth_leaver, value, 1, "L", 0)
            self.assert_error(InvalidPosts, nth_leaver, value, 0, "X", -1)
        for place in NO_PLACES:
            self.assert_error(InvalidPosts, nth_leaver, (), place, "L", 0)
            self.assert_error(InvalidPlace, nth_leaver, LRL, place, "X", 0)
            self.assert_error(InvalidPlace, nth_leaver, LRL, place, "L", -1)
        for end in NO_SIDES:
            self.assert_error(InvalidPlace, nth_leaver, LRL, 0, end, -1)
            self.assert_error(InvalidSide, nth_leaver, LRL, 1, end, -1)
            self.assert_error(InvalidSide, nth_leaver, index=None, end=end, place=1, posts=LRL)


class Settled(ErrorCase):

    def test_settled_posts_need_no_walkers(self):
        for posts in ((("L", 1),), (("R", 5),), RLL, (("R", 10 ** 33 - 1), ("L", 1))):
            self.assertIs(is_settled(posts), True)
            for place in range(1, min(6, line_length(posts))):
                self.assertEqual(walkers_to_settle(posts, place), 0)

    def test_posts_that_are_not_settled(self):
        for posts in ((("L", 1), ("R", 1)), LRL, (("R", 1), ("L", 1), ("R", 1))):
            self.assertIs(is_settled(posts), False)
            for place in range(1, line_length(posts)):
                self.assertGreater(walkers_to_settle(posts, place), 0)

    def test_they_stay_settled(self):
        for text, place in all_walks(7):
            if text_is_settled(text):
                self.assertTrue(text_is_settled(let_walk(text, [place])[0]))

    def test_by_name(self):
        self.assertIs(is_settled(posts=RLL), True)
        self.assertEqual(walkers_to_settle(place=2, posts=LRL), 1)
        self.assertEqual(period(place=2, posts=RLL), (2, 1, 8))

    def test_kinds_of_values(self):
        self.assertEqual([type(value) for value in period(RLL, 2)], [int, int, int])
        self.assertIs(type(period(RLL, 2)), tuple)

    def test_places_that_are_none(self):
        for function in (walkers_to_settle, period):
            for place in NO_PLACES:
                self.assert_error(InvalidPlace, function, RLL, place)
                self.assert_error(InvalidPlace, function, LRL, place)

    def test_values_that_are_no_posts(self):
        for value in NO_POSTS:
            self.assert_error(InvalidPosts, is_settled, value)
            for function in (walkers_to_settle, period):
                self.assert_error(InvalidPosts, function, value, 1)
                self.assert_error(InvalidPosts, function, value, 0)
        for place in NO_PLACES:
            for function in (walkers_to_settle, period):
                self.assert_error(InvalidPosts, function, (), place)

    def test_posts_without_a_period(self):
        for text, place in all_walks(6):
            if not text_is_settled(text):
                self.assert_error(NotSettled, period, to_posts(text), place)
                self.assert_error(InvalidPlace, period, to_posts(text), len(text) + 1)
        self.assert_error(NotSettled, period, place=2, posts=LRL)


class Large(ErrorCase):

    def setUp(self):
        self.enterContext(time_limit(60))
        self.lines = (longer(SHORT, TIMES), longer(MIRRORED, TIMES))

    def some_places(self, posts):
        length = line_length(posts)
        return (1, 2, 3, 7 * 10 ** 20, length // 3, length // 2, length - 10 ** 25, length - 2, length - 1)

    def test_nth_exit(self):
        for posts in self.lines:
            for place in self.some_places(posts):
                for index in (10 ** 79, 10 ** 80 - 1, 7 * 10 ** 79 + 12345678901234567890):
                    now, left, right = after_crowd(posts, [(place, index)])
                    self.assertEqual(nth_exit(posts, place, index), exit_end(now, place))

    def test_nth_leaver(self):
        for posts in self.lines:
            for place in self.some_places(posts):
                for index in (0, 1, 10 ** 33, 10 ** 79, 10 ** 80 - 1):
                    for end in "LR":
                        leaver = nth_leaver(posts, place, end, index)
                        self.assertEqual(nth_exit(posts, place, leaver), end)
                        left, right = after_crowd(posts, [(place, leaver)])[1:]
                        self.assertEqual(left if end == "L" else right, index)

    def test_walkers_to_settle(self):
        for posts in (*self.lines, (("L", TIMES), ("R", TIMES)), (("L", 1), ("R", TIMES)), (("L", TIMES), ("R", 1))):
            for place in self.some_places(posts):
                walkers = walkers_to_settle(posts, place)
                self.assertIs(is_settled(after_crowd(posts, [(place, walkers)])[0]), True)
                self.assertIs(is_settled(after_crowd(posts, [(place, walkers - 1)])[0]), False)

    def test_walkers_to_settle_walk_by_walk(self):
        # From these places each walker swings so many posts that few walkers are enough.
        chance = random.Random(19)
        lines = list(self.lines)
        for sides in ("LR", "RL") * 8:
            lines.append(tuple((sides[at % 2], chance.randint(10 ** 32, 10 ** 33 - 1)) for at in range(20)))
        for posts in lines:
            length = line_length(posts)
            self.assertEqual(len(posts), 20)
            for place in (length // 50, length // 7, length // 2, length // 2 + 1, length - length // 9,
                          chance.randint(length // 40, length - length // 40)):
                now, walkers = posts, 0
                while any(side == "L" for side, count in now[:-1]):
                    now = posts_after(now, place)
                    walkers += 1
                self.assertGreater(walkers, 0)
                self.assertEqual(walkers_to_settle(posts, place), walkers)
                self.assertEqual(walkers_to_settle(mirror_posts(posts), length - place), walkers)

    def test_time_grows_with_the_number_of_runs_alone(self):
        # Thousands of runs are no trouble; a time that grows with their square would be minutes.
        with time_limit(10):
            for posts in ((("L", 10 ** 30), ("R", 10 ** 30)) * 4000, (("R", 3), ("L", 10 ** 30)) * 4000):
                length = line_length(posts)
                for place in (1, 10 ** 30, length // 2, length - 1):
                    walkers = walkers_to_settle(posts, place)
                    self.assertIs(is_settled(after_crowd(posts, [(place, walkers)])[0]), True)
                    self.assertIs(is_settled(after_crowd(posts, [(place, walkers - 1)])[0]), False)
                    nth_exit(posts, place, 10 ** 79)
                    nth_leaver(posts, place, "L", 10 ** 79)

    def test_walkers_to_settle_one_at_a_time(self):
        # From place 1 all walkers leave at "L" until no post that points left stands before the last right ones.
        posts = (("L", 5), ("R", 10 ** 32), ("L", 10 ** 32), ("R", 1))
        self.assertEqual(walkers_to_settle(posts, 1), 5 + 10 ** 32)
        self.assertEqual(walkers_to_settle(posts, line_length(posts) - 1), 10 ** 32 + 1)

    def test_period(self):
        for posts in ((("R", 3 * TIMES), ("L", TIMES - 1)), (("L", 2 ** 110 - 1),), (("R", 3 ** 69),)):
            length = line_length(posts)
            for place in (*self.some_places(posts), 2 ** 100, 3 ** 60):
                walkers, right, steps = period(posts, place)
                after, left, also_right = after_crowd(posts, [(place, walkers)])
                self.assertEqual((after, also_right), (posts, right))
                self.assertEqual(crowd_steps(posts, [(place, walkers)]), steps)
                for prime in (2, 3, 5, 7):
                    if walkers % prime == 0:
                        self.assertNotEqual(after_crowd(posts, [(place, walkers // prime)])[0], posts)
                self.assertEqual(walkers * place, right * length)

    def test_periods_of_straight_lines(self):
        self.assertEqual(period((("L", 10 ** 33 - 1),), 1), (10 ** 33, 1, 10 ** 66 - 10 ** 33))
        self.assertEqual(period((("L", 10 ** 33 - 1),), 5 * 10 ** 32), (2, 1, 5 * 10 ** 65))


if __name__ == "__main__":
    unittest.main()
