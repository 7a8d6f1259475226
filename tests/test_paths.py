"""Points [13], [14] and [15]: the places of a walker, one by one, after some steps, how often, and how far."""

import inspect
import itertools
import unittest

from swingposts.errors import InvalidNumber, InvalidPlace, InvalidPosts
from swingposts.paths import count_visits, farthest, path, place_after
from swingposts.posts import count_right, line_length, sum_right
from swingposts.walks import count_steps, exit_end, posts_after

from tests.helpers import (
    MIRRORED, SHORT, TIMES, ErrorCase, all_walks, at_times, longer, scaled_walks, small_lines, time_limit, to_posts,
    to_text, walk,
)
from tests.test_posts import LRL, NO_INDEXES, NO_PLACES, NO_POSTS


def first_place(*args, **kwargs):
    return next(path(*args, **kwargs))


def turn_indexes(places):
    """After how many steps a walker with these places turns."""
    return [at for at in range(1, len(places) - 1) if places[at - 1] == places[at + 1]]


class StepByStep(unittest.TestCase):

    def test_path(self):
        for text, place in all_walks(9):
            self.assertEqual(list(path(to_posts(text), place)), walk(text, place)[0], (text, place))

    def test_place_after(self):
        for text, place in all_walks(9):
            posts, places = to_posts(text), walk(text, place)[0]
            found = [place_after(posts, place, steps) for steps in range(len(places))]
            self.assertEqual(found, places, (text, place))

    def test_count_visits(self):
        for text, place in all_walks(9):
            posts, places = to_posts(text), walk(text, place)[0]
            found = [count_visits(posts, place, post) for post in range(1, len(text) + 1)]
            self.assertEqual(found, [places.count(post) for post in range(1, len(text) + 1)], (text, place))

    def test_farthest(self):
        for text, place in all_walks(9):
            left_from = walk(text, place)[0][:-1]
            self.assertEqual(farthest(to_posts(text), place), (min(left_from), max(left_from)), (text, place))

    def test_longer_runs(self):
        for posts in (SHORT, MIRRORED, longer(SHORT[3:9], 7), longer(MIRRORED[:5], 11)):
            text = to_text(posts)
            for place in range(1, len(text) + 1):
                places = walk(text, place)[0]
                self.assertEqual(list(path(posts, place)), places)
                self.assertEqual([place_after(posts, place, steps) for steps in range(len(places))], places)
                found = [count_visits(posts, place, post) for post in range(1, len(text) + 1)]
                self.assertEqual(found, [places.count(post) for post in range(1, len(text) + 1)])
                self.assertEqual(farthest(posts, place), (min(places[:-1]), max(places[:-1])))

    def test_the_theory_on_the_way(self):
        for text, place in all_walks(6):
            posts = to_posts(text)
            visits = sum(count_visits(posts, place, post) for post in range(1, len(text) + 1))
            self.assertEqual(visits, count_steps(posts, place))
            for post in range(1, len(text) + 1):
                swung = text[post - 1] != to_text(posts_after(posts, place))[post - 1]
                self.assertEqual(count_visits(posts, place, post) % 2 == 1, swung)


class Path(ErrorCase):

    def test_generator(self):
        self.assertTrue(inspect.isgenerator(path(LRL, 2)))
        self.assertIsNot(path(LRL, 2), path(LRL, 2))

    def test_one_post(self):
        self.assertEqual(list(path((("L", 1),), 1)), [1, 0])
        self.assertEqual(list(path((("R", 1),), 1)), [1, 2])

    def test_straight(self):
        self.assertEqual(list(path((("R", 4),), 1)), [1, 2, 3, 4, 5])
        self.assertEqual(list(path((("L", 4),), 4)), [4, 3, 2, 1, 0])

    def test_one_by_one(self):
        walker = path(LRL, 2)
        self.assertEqual([next(walker) for _ in range(5)], [2, 3, 2, 1, 0])
        with self.assertRaises(StopIteration):
            next(walker)
        with self.assertRaises(StopIteration):
            next(walker)

    def test_two_paths_at_the_same_time(self):
        for text in small_lines(6):
            posts = to_posts(text)
            for one, other in itertools.product(range(1, len(text) + 1), repeat=2):
                first, second = path(posts, one), path(posts, other)
                pairs = list(itertools.zip_longest(first, second))
                self.assertEqual([place for place, _ in pairs if place is not None], walk(text, one)[0])
                self.assertEqual([place for _, place in pairs if place is not None], walk(text, other)[0])

    def test_two_paths_on_two_lines_at_the_same_time(self):
        one, other = ("LRLLR", 3), ("RRLRLL", 4)
        first, second = path(to_posts(one[0]), one[1]), path(to_posts(other[0]), other[1])
        pairs = list(itertools.zip_longest(first, second))
        self.assertEqual([place for place, _ in pairs if place is not None], walk(*one)[0])
        self.assertEqual([place for _, place in pairs if place is not None], walk(*other)[0])

    def test_an_earlier_path_that_was_not_followed_to_its_end(self):
        begun = path(LRL, 2)
        next(begun)
        next(begun)
        self.assertEqual(list(path(LRL, 2)), [2, 3, 2, 1, 0])
        self.assertEqual(list(begun), [2, 1, 0])

    def test_by_name(self):
        self.assertEqual(list(path(place=2, posts=LRL)), [2, 3, 2, 1, 0])
        self.assertEqual(list(path(LRL, place=1)), [1, 0])

    def test_nothing_is_raised_when_it_is_called(self):
        for place in NO_PLACES:
            walker = path(LRL, place)
            self.assert_error(InvalidPlace, walker.__next__)
        for value in NO_POSTS:
            walker = path(value, 1)
            self.assert_error(InvalidPosts, walker.__next__)

    def test_errors_by_name(self):
        walker = path(place=0, posts=LRL)
        self.assert_error(InvalidPlace, walker.__next__)

    def test_posts_are_checked_before_the_place(self):
        for value in NO_POSTS:
            self.assert_error(InvalidPosts, first_place, value, 0)
        for place in NO_PLACES:
            self.assert_error(InvalidPosts, first_place, (), place)
            self.assert_error(InvalidPlace, first_place, LRL, place)

    def test_after_an_error_it_has_ended(self):
        walker = path(LRL, 0)
        self.assert_error(InvalidPlace, walker.__next__)
        self.assertEqual(list(walker), [])


class PlaceAfter(ErrorCase):

    def test_no_steps_and_all_steps(self):
        for text, place in all_walks(6):
            posts = to_posts(text)
            steps = count_steps(posts, place)
            last = 0 if exit_end(posts, place) == "L" else line_length(posts)
            self.assertEqual([place_after(posts, place, 0), place_after(posts, place, steps)], [place, last])

    def test_one_step_more(self):
        for text, place in all_walks(6):
            posts = to_posts(text)
            for more in (1, 2, 10 ** 80):
                self.assert_error(InvalidNumber, place_after, posts, place, count_steps(posts, place) + more)

    def test_around_each_turn(self):
        for text in ("LRLRLRLRLR", "RLRLRLRLRL", "RRRRRLLLLL", "RRLLRRLLRRLL", "LLRLRRRLLLRL"):
            posts = to_posts(text)
            for place in range(1, len(text) + 1):
                places = walk(text, place)[0]
                for turn in turn_indexes(places):
                    around = [place_after(posts, place, steps) for steps in (turn - 1, turn, turn + 1)]
                    self.assertEqual(around, places[turn - 1:turn + 2])
                    self.assertEqual(around[0], around[2])

    def test_by_name(self):
        self.assertEqual(place_after(steps=1, place=2, posts=LRL), 3)
        self.assertEqual(place_after(LRL, 2, steps=3), 1)

    def test_places_that_are_none(self):
        for place in NO_PLACES:
            self.assert_error(InvalidPlace, place_after, LRL, place, 0)

    def test_steps_that_are_none(self):
        for steps in (*NO_INDEXES, 5, 6, 10 ** 80):
            self.assert_error(InvalidNumber, place_after, LRL, 2, steps)

    def test_order_of_errors(self):
        for value in NO_POSTS:
            self.assert_error(InvalidPosts, place_after, value, 0, -1)
            self.assert_error(InvalidPosts, place_after, value, 1, 0)
        for place in NO_PLACES:
            self.assert_error(InvalidPosts, place_after, (), place, 0)
            self.assert_error(InvalidPlace, place_after, LRL, place, -1)
            self.assert_error(InvalidPlace, place_after, LRL, place, 10 ** 80)
            self.assert_error(InvalidPlace, place_after, steps=None, place=place, posts=LRL)


class Visits(ErrorCase):

    def test_posts_that_are_not_reached(self):
        posts = to_posts("RLLLLRR")
        self.assertEqual([count_visits(posts, 2, post) for post in range(1, 8)], [2, 3, 1, 0, 0, 0, 0])
        self.assertEqual([count_visits(posts, 6, post) for post in range(1, 8)], [0, 0, 0, 0, 0, 1, 1])

    def test_by_name(self):
        self.assertEqual(count_visits(post=2, place=2, posts=LRL), 2)
        self.assertEqual(count_visits(LRL, 2, post=3), 1)

    def test_places_that_are_none(self):
        for place in NO_PLACES:
            self.assert_error(InvalidPlace, count_visits, LRL, place, 1)
            self.assert_error(InvalidPlace, count_visits, LRL, 1, place)
            self.assert_error(InvalidPlace, count_visits, LRL, post=place, place=3)

    def test_posts_are_checked_first(self):
        for value in NO_POSTS:
            self.assert_error(InvalidPosts, count_visits, value, 1, 1)
            self.assert_error(InvalidPosts, count_visits, value, 0, None)
        for place in NO_PLACES:
            self.assert_error(InvalidPosts, count_visits, (), place, 1)
            self.assert_error(InvalidPosts, count_visits, (), 1, place)


class Farthest(ErrorCase):

    def test_kind_of_value(self):
        self.assertIs(type(farthest(LRL, 2)), tuple)

    def test_only_its_own_post(self):
        self.assertEqual(farthest((("L", 1),), 1), (1, 1))
        self.assertEqual(farthest((("L", 3),), 1), (1, 1))
        self.assertEqual(farthest((("R", 3),), 3), (3, 3))

    def test_by_name(self):
        self.assertEqual(farthest(place=2, posts=LRL), (1, 3))

    def test_errors(self):
        for place in NO_PLACES:
            self.assert_error(InvalidPlace, farthest, LRL, place)
            self.assert_error(InvalidPosts, farthest, (), place)
        for value in NO_POSTS:
            self.assert_error(InvalidPosts, farthest, value, 1)
            self.assert_error(InvalidPosts, farthest, value, 0)


class LongLines(ErrorCase):
    """Lines with runs k times as long, from places that go along with k: what the walks do is polynomial in k."""

    def setUp(self):
        self.enterContext(time_limit(60))

    def check_at_times(self, short_answers, long_answer):
        """The first four answers are of one polynomial of degree 2, and so is the long one."""
        self.assertEqual(at_times(short_answers[:3], 4), short_answers[3])
        self.assertEqual(at_times(short_answers[:3], TIMES), long_answer)

    def test_visits(self):
        for posts in (SHORT, MIRRORED):
            length = line_length(posts)
            for place_by in itertools.islice(scaled_walks(posts), 0, None, 3):
                paths = [walk(to_text(longer(posts, k)), place_by(k))[0] for k in (1, 2, 3, 4)]
                for post in range(1, length):
                    for post_by in (lambda k: (post - 1) * k + 1, lambda k: post * k):
                        visits = [places.count(post_by(k)) for k, places in enumerate(paths, start=1)]
                        long = count_visits(longer(posts, TIMES), place_by(TIMES), post_by(TIMES))
                        self.check_at_times(visits, long)

    def test_farthest(self):
        for posts in (SHORT, MIRRORED):
            for place_by in scaled_walks(posts):
                paths = [walk(to_text(longer(posts, k)), place_by(k))[0][:-1] for k in (1, 2, 3, 4)]
                long = farthest(longer(posts, TIMES), place_by(TIMES))
                self.check_at_times([min(places) for places in paths], long[0])
                self.check_at_times([max(places) for places in paths], long[1])

    def test_where_it_comes_to_new_posts(self):
        checked = 0
        for posts in (SHORT, MIRRORED):
            for place_by in scaled_walks(posts):
                paths = [walk(to_text(longer(posts, k)), place_by(k))[0] for k in (1, 2, 3, 4)]
                for post in range(1, line_length(posts)):
                    places = [(post - 1) * k + 1 if place_by(1) < post else post * k for k in (1, 2, 3, 4, TIMES)]
                    if all(at in found for at, found in zip(places, paths)):
                        steps = [found.index(at) for at, found in zip(places, paths)]
                        self.assertEqual(at_times(steps[:3], 4), steps[3])
                        checked += self.check_first_visit(posts, place_by, places[4], at_times(steps[:3], TIMES))
        self.assertGreater(checked, 500)

    def check_first_visit(self, posts, place_by, place, steps):
        long, start = longer(posts, TIMES), place_by(TIMES)
        self.assertEqual(place_after(long, start, steps), place)
        if steps > 0:
            away = place - 1 if place > start else place + 1
            self.assertEqual(place_after(long, start, steps - 1), away)
        return 1

    def test_all_steps_and_one_more(self):
        for posts in (longer(SHORT, TIMES), longer(MIRRORED, TIMES)):
            length = line_length(posts)
            for place in range(1, length, length // 50):
                steps = count_steps(posts, place)
                end, before_end = (0, 1) if exit_end(posts, place) == "L" else (length, length - 1)
                self.assertEqual(place_after(posts, place, steps), end)
                self.assertEqual(place_after(posts, place, steps - 1), before_end)
                self.assert_error(InvalidNumber, place_after, posts, place, steps + 1)

    def test_where_a_stopped_walker_stands_fits_the_theory(self):
        # p + r and p * p + 2 * S of point [8], with the posts swung that it has visited an odd number of times.
        posts = longer((("R", 1), ("L", 1), ("R", 2), ("L", 3)), 12)
        text = to_text(posts)
        places = walk(text, 30)[0]
        for steps in range(0, len(places), 17):
            passed = places[:steps]
            sides = [side if passed.count(at) % 2 == 0 else "LR"[side == "L"] for at, side in enumerate(text, start=1)]
            now, place = to_posts("".join(sides)), place_after(posts, 30, steps)
            self.assertEqual(place + count_right(now), 30 + count_right(posts))
            self.assertEqual(place * place + 2 * sum_right(now), 30 * 30 + 2 * sum_right(posts) + steps)

    def test_straight_walks(self):
        many = 10 ** 33 - 1
        self.assertEqual(place_after((("L", many),), many, 10 ** 32), many - 10 ** 32)
        self.assertEqual(place_after((("R", many),), 1, 10 ** 32), 10 ** 32 + 1)
        self.assertEqual(count_visits((("R", many),), 5, many), 1)
        self.assertEqual(count_visits((("R", many),), 5, 4), 0)
        self.assertEqual(farthest((("R", many),), 5), (5, many))

    def test_to_and_fro_in_the_middle(self):
        many = 10 ** 33 - 1
        posts = (("R", many), ("L", many))
        # Its turns are one place farther each time, so after 2 * k * k + k steps it turns at many - k.
        for turns in (1, 2, 10 ** 20, 10 ** 32):
            steps = 2 * turns * turns + turns
            around = [place_after(posts, many, at) for at in (steps - 1, steps, steps + 1)]
            self.assertEqual(around, [many - turns + 1, many - turns, many - turns + 1])
        self.assertEqual(count_visits(posts, many, many), 2 * many)
        self.assertEqual(count_visits(posts, many, 2 * many), 1)
        self.assertEqual(farthest(posts, many), (1, 2 * many))

    def test_the_first_places_of_a_path(self):
        for posts in (longer(SHORT, TIMES), longer(MIRRORED, TIMES), (("R", TIMES), ("L", TIMES))):
            for place in (1, TIMES, TIMES + 1, 8 * TIMES, line_length(posts) - 1):
                if place < line_length(posts):
                    first = list(itertools.islice(path(posts, place), 300))
                    many = min(300, count_steps(posts, place) + 1)
                    self.assertEqual(first, [place_after(posts, place, steps) for steps in range(many)])

    def test_a_long_path(self):
        posts = (("L", 1), ("R", 700), ("L", 600), ("R", 5))
        places = walk(to_text(posts), 701)[0]
        self.assertGreater(len(places), 10 ** 5)
        self.assertEqual(list(path(posts, 701)), places)

    def test_a_thousand_runs(self):
        posts = longer((("R", 1), ("L", 2)) * 500, TIMES)
        place = 600 * TIMES
        steps = count_steps(posts, place)
        self.assertEqual(exit_end(posts, place), "L")
        self.assertEqual([place_after(posts, place, steps), place_after(posts, place, steps - 1)], [0, 1])
        lowest, highest = farthest(posts, place)
        self.assertEqual([count_visits(posts, place, highest), count_visits(posts, place, highest + 1)], [1, 0])
        self.assertEqual(lowest, 1)


if __name__ == "__main__":
    unittest.main()
