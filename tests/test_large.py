"""Point [3]: long lines are answered at once, and as exactly as short ones.

A line whose runs are all k times as long gives answers that are polynomials in k of degree 2 at most. So walks made
step by step for k = 1, 2, 3 tell what the answer must be for any k.
"""

import unittest

from swingposts.before import can_be_before
from swingposts.crowds import after_crowd, crowd_steps
from swingposts.errors import InvalidPlace
from swingposts.live import LiveLine
from swingposts.pairs import equal_after, place_to_merge, same_exits
from swingposts.paths import count_visits, farthest, path, place_after
from swingposts.posts import count_right, is_posts, line_length, place_of, side_at, sum_right
from swingposts.reaching import can_become, count_reachable, nth_reachable, reachable, walkers_to, why_not_become
from swingposts.streams import is_settled, nth_exit, nth_leaver, walkers_to_settle
from swingposts.texts import format_posts, parse_posts
from swingposts.walks import count_steps, exit_end, named_ends, posts_after, walked

from tests.helpers import (
    MIRRORED, SHORT, TIMES, ErrorCase, at_times, longer, scaled_walks, time_limit, to_posts, to_text, walk, walk_end,
)


class LongLines(ErrorCase):

    def setUp(self):
        self.enterContext(time_limit(60))

    def test_counts_have_33_digits(self):
        for posts in (SHORT, MIRRORED):
            self.assertEqual(len(posts), 20)
            self.assertEqual({len(str(count)) for side, count in longer(posts, TIMES)}, {33})
            self.assertIs(is_posts(longer(posts, TIMES)), True)

    def test_numbers(self):
        for posts in (SHORT, MIRRORED):
            for function in (line_length, count_right):
                one, two = function(posts), function(longer(posts, 2))
                self.assertEqual(function(longer(posts, TIMES)), one + (TIMES - 1) * (two - one))
            sums = []
            for times in (1, 2, 3):
                text = to_text(longer(posts, times))
                sums.append(sum(place for place, side in enumerate(text, start=1) if side == "R"))
            self.assertEqual(sum_right(longer(posts, TIMES)), at_times(sums, TIMES))

    def test_sides_and_places(self):
        for posts in (SHORT, MIRRORED):
            long, text, seen = longer(posts, TIMES), to_text(posts), {"L": 0, "R": 0}
            for place, side in enumerate(text, start=1):
                first, last = (place - 1) * TIMES + 1, place * TIMES
                self.assertEqual([side_at(long, first), side_at(long, last)], [side, side])
                self.assertEqual(place_of(long, side, seen[side] * TIMES), first)
                seen[side] += 1
                self.assertEqual(place_of(long, side, seen[side] * TIMES - 1), last)
            for side in "LR":
                self.assertIsNone(place_of(long, side, seen[side] * TIMES))

    def test_walks(self):
        for posts in (SHORT, MIRRORED):
            for place_by in scaled_walks(posts):
                long, place = longer(posts, TIMES), place_by(TIMES)
                text = to_text(posts)
                steps = [len(walk(to_text(longer(posts, k)), place_by(k))[0]) - 1 for k in (1, 2, 3)]
                self.assertEqual(exit_end(long, place), walk_end(text, place_by(1)))
                self.assertEqual(posts_after(long, place), longer(to_posts(walk(text, place_by(1))[1]), TIMES))
                self.assertEqual(count_steps(long, place), at_times(steps, TIMES))

    def test_straight_walks(self):
        many = 10 ** 33 - 1
        posts = (("L", many), ("R", many))
        self.assertEqual(count_steps(posts, many), many)
        self.assertEqual(posts_after(posts, many), (("R", 2 * many),))
        self.assertEqual(count_steps(posts, many + 1), many)
        self.assertEqual(posts_after(posts, many + 1), (("L", 2 * many),))

    def test_ends_of_the_line(self):
        long = longer(SHORT, TIMES)
        length = line_length(long)
        self.assertEqual(exit_end(long, 1), "L")
        self.assertEqual(exit_end(long, length - 1), "R")
        for place in (0, length, -1, length + 1):
            for function in (side_at, exit_end, posts_after, count_steps, walked):
                self.assert_error(InvalidPlace, function, long, place)

    def test_the_last_place_that_leaves_left(self):
        long = longer(SHORT, TIMES)
        border = line_length(long) - count_right(long)
        self.assertEqual([exit_end(long, border - 1), exit_end(long, border)], ["L", "R"])

    def test_many_walkers(self):
        long = longer(SHORT, TIMES)
        length = line_length(long)
        places = [(index * index * TIMES + index) % (length - 1) + 1 for index in range(100)]
        after, ends = walked(long, *places)
        now = long
        for place, end in zip(places, ends):
            self.assertEqual(exit_end(now, place), end)
            now = posts_after(now, place)
        self.assertEqual(after, now)
        self.assertEqual(list(named_ends(long, **{f"w{at}": place for at, place in enumerate(places)}).values()), ends)
        moved = sum(places) + count_right(long) - count_right(after)
        self.assertEqual(moved, ends.count("R") * length)

    def test_time_of_all_functions_at_thousands_of_runs(self):
        many = (("L", 10 ** 30), ("R", 10 ** 30)) * 4000
        length, goal = line_length(many), nth_reachable(many, count_reachable(many) // 2)
        place, index = length // 2, 10 ** 60
        calls = (
            (exit_end, place), (posts_after, place), (count_steps, place), (walked, 1, place, length - 1),
            (place_after, place, index), (count_visits, place, 1), (farthest, place), (after_crowd, [(place, index)]),
            (crowd_steps, [(place, index)]), (nth_exit, place, index), (nth_leaver, place, "L", index), (is_settled,),
            (walkers_to_settle, place), (can_become, goal), (walkers_to, goal), (why_not_become, goal),
            (count_reachable,), (nth_reachable, index), (can_be_before, place), (same_exits, goal),
            (equal_after, goal, [(place, index)]), (place_to_merge, goal), (format_posts,), (LiveLine,),
        )
        for function, *rest in calls:
            with time_limit(5):
                function(many, *rest)
        with time_limit(5):
            self.assertEqual(parse_posts(format_posts(many)), many)
            self.assertEqual(next(reachable(many)), many)
            self.assertEqual(next(path(many, place)), place)
            self.assertEqual(why_not_become(goal, many), (1, 10 ** 30 + 1))

    def test_a_thousand_runs(self):
        many = longer((("L", 1), ("R", 2)) * 500, TIMES)
        self.assertEqual(line_length(many), 1500 * TIMES + 1)
        places = [TIMES * at for at in range(1, 101)]
        after, ends = walked(many, *places)
        self.assertIs(is_posts(after), True)
        moved = sum(places) + count_right(many) - count_right(after)
        self.assertEqual(moved, ends.count("R") * line_length(many))


if __name__ == "__main__":
    unittest.main()
