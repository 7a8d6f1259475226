"""Points [22] and [23]: which posts walkers can make of others."""

import inspect
import itertools
import random
import unittest

from swingposts.errors import InvalidNumber, InvalidPosts, OtherLength
from swingposts.posts import count_right, is_posts, line_length
from swingposts.reaching import can_become, count_reachable, nth_reachable, reachable, walkers_to, why_not_become
from swingposts.walks import posts_after, walked

from tests.helpers import (
    MIRRORED, SHORT, TIMES, ErrorCase, at_times, let_walk, longer, mirror_posts, mirror_text, search, small_lines,
    swung, texts_of, time_limit, to_posts, to_text,
)
from tests.test_posts import LRL, NO_INDEXES, NO_POSTS

PAIRED = (can_become, walkers_to, why_not_become)


def first_posts(*args, **kwargs):
    return next(reachable(*args, **kwargs))


def reasons(text, goal):
    """All pairs of places that point [22] describes, the smallest first."""
    for i, j in itertools.combinations(range(1, len(goal) + 1), 2):
        if goal[i - 1] == "L" and goal[j - 1] == "R" and (text[i - 1] != "L" or text[j - 1] != "R"):
            yield i, j


class AllSmallLines(ErrorCase):

    def test_all_pairs(self):
        for text in small_lines(6):
            posts, walkers = to_posts(text), search(text)
            for goal in texts_of(len(text)):
                found = walkers_to(posts, to_posts(goal))
                reason = why_not_become(posts, to_posts(goal))
                self.assertIs(can_become(posts, to_posts(goal)), goal in walkers, (text, goal))
                if goal in walkers:
                    self.assertIs(type(found), list)
                    self.assertEqual(len(found), walkers[goal], (text, goal))
                    self.assertEqual(let_walk(text, found)[0], goal)
                    self.assertIsNone(reason, (text, goal))
                else:
                    self.assertIsNone(found, (text, goal))
                    self.assertEqual(reason, next(reasons(text, goal)), (text, goal))

    def test_at_most_two_walkers(self):
        self.assertEqual({max(search(text).values()) for text in texts_of(6)}, {1, 2})

    def test_reachable(self):
        for text in small_lines(8):
            posts = to_posts(text)
            texts = sorted(search(text), key=lambda other: swung(text, other))
            self.assertEqual(count_reachable(posts), len(texts), text)
            self.assertEqual([to_text(other) for other in reachable(posts)], texts)
            self.assertEqual([to_text(nth_reachable(posts, index)) for index in range(len(texts))], texts)
            for index in (len(texts), len(texts) + 1, 10 ** 79):
                self.assert_error(InvalidNumber, nth_reachable, posts, index)

    def test_mirrored(self):
        for text in small_lines(5):
            posts, behind = to_posts(text), to_posts(mirror_text(text))
            self.assertEqual(count_reachable(behind), count_reachable(posts))
            self.assertEqual({mirror_posts(other) for other in reachable(behind)}, set(reachable(posts)))
            for goal in texts_of(len(text)):
                other, goal = to_posts(mirror_text(goal)), to_posts(goal)
                self.assertIs(can_become(behind, other), can_become(posts, goal))
                self.assertEqual(len(walkers_to(behind, other) or ()), len(walkers_to(posts, goal) or ()))


class Pairs(ErrorCase):

    def test_equal_posts(self):
        for posts in (LRL, (("L", 1),), (("L", 3), ("R", 3)), longer(SHORT, TIMES)):
            self.assertIs(can_become(posts, posts), True)
            self.assertEqual(walkers_to(posts, posts), [])
            self.assertIsNone(why_not_become(posts, posts))

    def test_new_lists(self):
        for goal in (LRL, (("R", 2), ("L", 1)), (("R", 1), ("L", 2))):
            first = walkers_to(LRL, goal)
            self.assertIsNot(walkers_to(LRL, goal), first)
            kept = list(first)
            first.append(7)
            self.assertEqual(walkers_to(LRL, goal), kept)

    def test_one_and_two_walkers(self):
        self.assertEqual(walkers_to(LRL, (("R", 3),)), [2])
        self.assertEqual(walkers_to(LRL, (("L", 3),)), [3])
        posts, goal = (("L", 2), ("R", 2)), (("R", 1), ("L", 1), ("R", 1), ("L", 1))
        self.assertEqual(len(walkers_to(posts, goal)), 2)
        self.assertEqual(walked(posts, *walkers_to(posts, goal))[0], goal)
        self.assertEqual(len(walkers_to(LRL, (("R", 1), ("L", 2)))), 2)

    def test_reasons(self):
        self.assertEqual(why_not_become((("R", 1), ("L", 1)), (("L", 1), ("R", 1))), (1, 2))
        self.assertEqual(why_not_become((("L", 3), ("R", 1)), (("L", 2), ("R", 2))), (1, 3))
        self.assertEqual(why_not_become((("L", 1), ("R", 3)), (("L", 2), ("R", 2))), (2, 3))
        self.assertEqual(type(why_not_become((("R", 1), ("L", 1)), (("L", 1), ("R", 1)))), tuple)

    def test_by_name(self):
        self.assertIs(can_become(goal=(("R", 3),), posts=LRL), True)
        self.assertEqual(walkers_to(goal=(("R", 2), ("L", 1)), posts=LRL), [1])
        self.assertEqual(why_not_become(goal=(("L", 2), ("R", 1)), posts=LRL), (1, 3))
        self.assertIs(can_become(LRL, goal=(("L", 2), ("R", 1))), False)

    def test_values_that_are_no_posts(self):
        for function in PAIRED:
            for value in NO_POSTS:
                self.assert_error(InvalidPosts, function, value, LRL)
                self.assert_error(InvalidPosts, function, LRL, value)
                self.assert_error(InvalidPosts, function, (("L", 7),), value)
                self.assert_error(InvalidPosts, function, value, value)
                self.assert_error(InvalidPosts, function, goal=value, posts=LRL)

    def test_other_lengths(self):
        for function in PAIRED:
            self.assert_error(OtherLength, function, LRL, (("L", 2),))
            self.assert_error(OtherLength, function, LRL, (("L", 1), ("R", 1), ("L", 2)))
            self.assert_error(OtherLength, function, (("L", 10 ** 33),), (("L", 10 ** 33 - 1),))
            self.assert_error(OtherLength, function, goal=LRL, posts=(("R", 4),))


class Reachable(ErrorCase):

    def test_first_and_last(self):
        self.assertEqual(nth_reachable(LRL, 0), LRL)
        self.assertEqual(nth_reachable(LRL, 4), (("R", 3),))
        self.assertEqual(list(reachable(LRL))[::4], [LRL, (("R", 3),)])

    def test_settled_posts(self):
        for many in range(1, 6):
            for posts in ((("L", many),), (("R", many),), (("R", many), ("L", 2)), (("R", 1), ("L", many))):
                self.assertEqual(count_reachable(posts), line_length(posts))
                found = {(count_right(other), len(other)) for other in reachable(posts)}
                self.assertEqual(len(found), line_length(posts))

    def test_generator(self):
        self.assertTrue(inspect.isgenerator(reachable(LRL)))
        found = reachable(LRL)
        self.assertEqual([next(found) for _ in range(5)], [nth_reachable(LRL, index) for index in range(5)])
        with self.assertRaises(StopIteration):
            next(found)

    def test_two_generators_at_the_same_time(self):
        for first, second in itertools.combinations(("LRL", "LLRR", "RLRLL", "LRLRLR"), 2):
            lists = [list(reachable(to_posts(text))) for text in (first, second)]
            pairs = list(itertools.zip_longest(reachable(to_posts(first)), reachable(to_posts(second))))
            self.assertEqual([[one for one in column if one is not None] for column in zip(*pairs)], lists)
        one, other = reachable(LRL), reachable(LRL)
        next(one)
        self.assertEqual(list(zip(one, other)), list(zip(list(reachable(LRL))[1:], reachable(LRL))))

    def test_kinds_of_values(self):
        self.assertIs(type(count_reachable(LRL)), int)
        for text in small_lines(6):
            for posts in reachable(to_posts(text)):
                self.assertIs(is_posts(posts), True)

    def test_by_name(self):
        self.assertEqual(count_reachable(posts=LRL), 5)
        self.assertEqual(nth_reachable(index=1, posts=LRL), (("L", 3),))
        self.assertEqual(len(list(reachable(posts=LRL))), 5)

    def test_errors(self):
        for value in NO_POSTS:
            self.assert_error(InvalidPosts, count_reachable, value)
            self.assert_error(InvalidPosts, nth_reachable, value, 0)
            self.assert_error(InvalidPosts, nth_reachable, value, -1)
        for index in NO_INDEXES:
            self.assert_error(InvalidNumber, nth_reachable, LRL, index)
            self.assert_error(InvalidPosts, nth_reachable, (), index)
            self.assert_error(InvalidPosts, nth_reachable, index=index, posts=())
        for index in (5, 6, 10 ** 80):
            self.assert_error(InvalidNumber, nth_reachable, LRL, index)

    def test_errors_when_the_first_posts_are_asked_for(self):
        for value in NO_POSTS:
            reachable(value)
            self.assert_error(InvalidPosts, first_posts, value)
            self.assert_error(InvalidPosts, first_posts, posts=value)


class Large(ErrorCase):

    def setUp(self):
        self.enterContext(time_limit(60))
        self.lines = (longer(SHORT, TIMES), longer(MIRRORED, TIMES))

    def check_goal(self, posts, goal, most):
        """Walkers can make the goal, with so many at most, and the list tells how, with the fewest."""
        places = walkers_to(posts, goal)
        self.assertIs(can_become(posts, goal), True)
        self.assertIsNone(why_not_become(posts, goal))
        self.assertLessEqual(len(places), most)
        self.assertEqual(walked(posts, *places)[0], goal)
        self.assertEqual(len(places) == 0, posts == goal)
        if len(places) == 2:
            # A single walker would have to change the number of right posts in the same way, so it has one place only.
            place = (count_right(goal) - count_right(posts)) % line_length(posts)
            self.assertTrue(place == 0 or posts_after(posts, place) != goal)

    def test_posts_made_by_walkers(self):
        chance = random.Random(22)
        for posts in self.lines:
            for many in (0, 1, 1, 1, 2, 2, 2, 2, 3, 5, 20, 100):
                places = [chance.randint(1, line_length(posts) - 1) for _ in range(many)]
                self.check_goal(posts, walked(posts, *places)[0], min(2, many))

    def test_posts_made_by_walkers_that_swing_few(self):
        for posts in self.lines:
            length = line_length(posts)
            for first, last in ((1, 1), (TIMES + 1, 10 ** 20), (10 ** 30, 3 * TIMES)):
                goal = walked(posts, first, length - last)[0]
                self.check_goal(posts, goal, 2)
                self.assertEqual(walkers_to(posts, goal), [first, length - last])
                self.check_goal(posts, walked(posts, *[first] * 3, *[length - last] * 2, first)[0], 2)

    def test_settled_goals(self):
        for posts in self.lines:
            many = line_length(posts) - 1
            for right in (1, TIMES, many // 2, count_right(posts), many - 10 ** 20):
                self.check_goal(posts, (("R", right), ("L", many - right)), 2)
            self.check_goal(posts, (("R", many),), 1)
            self.check_goal(posts, (("L", many),), 1)

    def test_goals_that_cannot_be_made(self):
        for posts in self.lines:
            many = line_length(posts) - 1
            self.assertEqual(why_not_become((("R", many),), posts), next(reasons_by_runs((("R", many),), posts)))
            swung_in_the_middle = swing_one(posts, many // 2)
            for goal in (mirror_posts(posts), swung_in_the_middle, (("L", many - 1), ("R", 1))):
                self.assertIs(can_become(posts, goal), False)
                self.assertIsNone(walkers_to(posts, goal))
                self.assertEqual(why_not_become(posts, goal), next(reasons_by_runs(posts, goal)))

    def test_small_pairs_made_longer(self):
        for text in texts_of(6)[::3]:
            for goal in texts_of(6):
                short = to_posts(text), to_posts(goal)
                long = [longer(posts, TIMES) for posts in short]
                self.assertIs(can_become(*long), can_become(*short))
                places, reason = walkers_to(*long), why_not_become(*short)
                if places is None:
                    expected = tuple((place - 1) * TIMES + 1 for place in reason)
                    self.assertEqual(why_not_become(*long), expected)
                else:
                    self.check_goal(*long, len(walkers_to(*short)))

    def test_count_reachable(self):
        for posts in (SHORT, MIRRORED):
            # Each number of right posts once, and one for each left post before a right one, as at small lines.
            counts = []
            for times in (1, 2, 3):
                text = to_text(longer(posts, times))
                pairs = sum(text[at:].count("R") for at in range(len(text)) if text[at] == "L")
                counts.append(len(text) + 1 + pairs)
            self.assertEqual(count_reachable(longer(posts, TIMES)), at_times(counts, TIMES))
            self.assertEqual(count_reachable(posts), len(search(to_text(posts))))

    def test_nth_reachable(self):
        for posts in self.lines:
            number = count_reachable(posts)
            indexes = (0, 1, TIMES, 10 ** 40, number // 7, number // 2, number - TIMES, number - 2, number - 1)
            for index in indexes:
                found = nth_reachable(posts, index)
                self.check_goal(posts, found, 2)
                rest = [nth_reachable(posts, other) for other in indexes if other != index]
                self.assertNotIn(found, rest)
            many = line_length(posts) - 1
            self.assertEqual(nth_reachable(posts, 0), posts)
            self.assertEqual(nth_reachable(posts, count_right(posts)), (("L", many),))
            self.assertEqual(nth_reachable(posts, number - 1 - posts_at_end(posts)), (("R", many),))
            self.assert_error(InvalidNumber, nth_reachable, posts, number)

    def test_the_first_posts_of_reachable(self):
        for posts in self.lines:
            first = list(itertools.islice(reachable(posts), 500))
            self.assertEqual(first, [nth_reachable(posts, index) for index in range(500)])
            self.assertEqual(first[1], walked(posts, line_length(posts) - 1)[0])

    def test_reachable_goes_on_to_the_next_number_of_swung_posts(self):
        posts = (("L", 10 ** 33), ("R", 2), ("L", 10 ** 33))
        first = list(itertools.islice(reachable(posts), 9))
        self.assertEqual(first, [nth_reachable(posts, index) for index in range(9)])
        self.assertEqual(first[3], (("R", 1), ("L", 10 ** 33 - 1), ("R", 2), ("L", 10 ** 33)))


def posts_at_end(posts):
    """The number of right posts behind the last left one."""
    return posts[-1][1] if posts[-1][0] == "R" else 0


def swing_one(posts, place):
    """The posts when the post at the place has swung; it stands inside a run."""
    runs = []
    for side, count in posts:
        if 1 < place < count:
            runs += [(side, place - 1), ("R" if side == "L" else "L", 1), (side, count - place)]
        else:
            runs.append((side, count))
        place -= count
    return tuple(runs)


def reasons_by_runs(posts, goal):
    """The pairs of places that point [22] describes, of the places at which some run begins, the smallest first."""
    begins = sorted({1 + sum(count for side, count in line[:at]) for line in (posts, goal) for at in range(len(line))})

    def side(line, place):
        for run_side, count in line:
            if place <= count:
                return run_side
            place -= count

    for i, j in itertools.combinations(begins, 2):
        if side(goal, i) == "L" and side(goal, j) == "R" and (side(posts, i) != "L" or side(posts, j) != "R"):
            yield i, j


if __name__ == "__main__":
    unittest.main()
