"""Points [16] and [17]: crowds."""

import itertools
import random
import unittest

from swingposts.crowds import after_crowd, crowd_steps
from swingposts.errors import InvalidCrowd, InvalidPosts
from swingposts.posts import count_right, is_posts, line_length
from swingposts.walks import count_steps, posts_after, walked

from tests.helpers import (
    MIRRORED, SHORT, TIMES, ErrorCase, Unfriendly, let_walk, longer, small_lines, text_is_settled, time_limit, to_posts,
)
from tests.test_posts import LRL, NO_POSTS

NO_CROWDS = (
    None, True, False, 0, 1, 2.5, "", "2x1", b"", (), ((2, 1),), {}, {2: 1}, set(), {(2, 1)}, frozenset(), object(),
    range(0), iter([]), iter([(2, 1)]), (entry for entry in [(2, 1)]), len, list, Unfriendly(),
    [None], [2], [True], [""], ["2x1"], ["21"], [b"21"], [[]], [()], [{}], [{2: 1}], [{2, 1}], [range(2)],
    [Unfriendly()],
    [[2, 1]], [(2, 1), [2, 1]], [[2, 1], (2, 1)], [[(2, 1)]], [((2, 1),)], [(2,)], [(2, 1, 1)], [(2, 1, None)],
    [(2, 1), ()],
    [(0, 1)], [(4, 1)], [(0, 0)], [(4, 0)], [(-1, 1)], [(5, 1)], [(10 ** 80, 1)], [(-10 ** 80, 1)],
    [(True, 1)], [(False, 1)], [(1.0, 1)], [(2.0, 1)], [("2", 1)], [(b"2", 1)], [(None, 1)], [([2], 1)], [((2,), 1)],
    [(Unfriendly(), 1)],
    [(2, -1)], [(2, -10 ** 80)], [(2, True)], [(2, False)], [(2, 0.0)], [(2, 1.0)], [(2, "1")], [(2, b"1")],
    [(2, None)], [(2, [1])], [(2, (1,))], [(2, Unfriendly())], [(2, "R")],
    [(2, 1), (4, 1)], [(0, 1), (2, 1)], [(2, 1), (2, 1), (2, -1)], [(2, 1), (2, 1), None], [(2, 1)] * 99 + [(4, 0)],
)


def places_of(crowd):
    return [place for place, count in crowd for _ in range(count)]


def small_crowds(many_posts, entries, counts):
    blocks = list(itertools.product(range(1, many_posts + 1), counts))
    return itertools.product(blocks, repeat=entries)


class CrowdCase(ErrorCase):

    def check_crowd(self, text, crowd):
        """The crowd does what its walkers do step by step."""
        after, ends, steps = let_walk(text, places_of(crowd))
        expected = (to_posts(after), ends.count("L"), ends.count("R"))
        self.assertEqual(after_crowd(to_posts(text), crowd), expected, (text, crowd))
        self.assertEqual(crowd_steps(to_posts(text), crowd), steps, (text, crowd))


class StepByStep(CrowdCase):

    def test_one_block(self):
        for text in small_lines(7):
            for place in range(1, len(text) + 1):
                for count in range(10):
                    self.check_crowd(text, [(place, count)])

    def test_two_blocks(self):
        for text in small_lines(4):
            for crowd in small_crowds(len(text), 2, range(4)):
                self.check_crowd(text, list(crowd))

    def test_three_blocks(self):
        for text in small_lines(3):
            for crowd in small_crowds(len(text), 3, range(3)):
                self.check_crowd(text, list(crowd))

    def test_several_blocks(self):
        chance = random.Random(7)
        for _ in range(600):
            text = "".join(chance.choice("LR") for _ in range(chance.randint(5, 24)))
            blocks = chance.randint(0, 6)
            crowd = [(chance.randint(1, len(text)), chance.randint(0, 3)) for _ in range(blocks)]
            self.check_crowd(text, crowd)

    def test_all_walkers_leave_at_one_end(self):
        for text in ("LLLLLLLL", "LRLRLRLR", "RLLLRLLL"):
            for count in range(5):
                self.check_crowd(text, [(1, count)])
                self.check_crowd(text[::-1].replace("L", "x").replace("R", "L").replace("x", "R"), [(8, count)])


class Order(CrowdCase):

    def test_the_same_blocks_in_another_order(self):
        for text in ("LRL", "LLRR", "RLRLL", "LRRLRLLR"):
            crowd = [(1, 2), (len(text), 1), (2, 3), (3, 0)]
            self.check_crowd(text, crowd)
            results = {after_crowd(to_posts(text), list(other)) for other in itertools.permutations(crowd)}
            self.assertEqual(len(results), 1)
            steps = {crowd_steps(to_posts(text), list(other)) for other in itertools.permutations(crowd)}
            self.assertEqual(len(steps), 1)

    def test_all_orders_of_walkers_step_by_step(self):
        for text in small_lines(4):
            for places in itertools.combinations_with_replacement(range(1, len(text) + 1), 3):
                expected = (after_crowd(to_posts(text), [(place, 1) for place in places]),
                            crowd_steps(to_posts(text), [(place, 1) for place in places]))
                for order in set(itertools.permutations(places)):
                    after, ends, steps = let_walk(text, order)
                    self.assertEqual(((to_posts(after), ends.count("L"), ends.count("R")), steps), expected)

    def test_one_block_divided_into_two(self):
        for text in ("L", "LRL", "LLRLRR", "LLLLLRLRRRRR"):
            posts = to_posts(text)
            for place in range(1, len(text) + 1):
                whole = [(place, 7), (1, 2)]
                for part in range(8):
                    parts = [(place, part), (1, 2), (place, 7 - part)]
                    self.assertEqual(after_crowd(posts, parts), after_crowd(posts, whole))
                    self.assertEqual(crowd_steps(posts, parts), crowd_steps(posts, whole))

    def test_two_crowds_one_after_another(self):
        for text in ("LLLRLRRR", "LRLRLRLR"):
            posts = to_posts(text)
            for first, second in itertools.product(([(1, 2), (5, 1)], [(8, 3)], [(3, 1), (6, 4)]), repeat=2):
                middle, left, right = after_crowd(posts, first)
                after, more_left, more_right = after_crowd(middle, second)
                self.assertEqual(after_crowd(posts, first + second), (after, left + more_left, right + more_right))
                steps = crowd_steps(posts, first) + crowd_steps(middle, second)
                self.assertEqual(crowd_steps(posts, first + second), steps)


class Crowds(CrowdCase):

    def test_kinds_of_values(self):
        result = after_crowd(LRL, [(2, 1)])
        self.assertEqual([type(value) for value in result], [tuple, int, int])
        self.assertEqual(type(result), tuple)
        self.assertIs(type(crowd_steps(LRL, [(2, 1)])), int)
        for text in small_lines(5):
            for place in range(1, len(text) + 1):
                self.assertIs(is_posts(after_crowd(to_posts(text), [(place, 3), (1, 1)])[0]), True)

    def test_without_walkers_nothing_changes(self):
        for text in small_lines(6):
            posts = to_posts(text)
            for crowd in ([], [(1, 0)], [(len(text), 0), (1, 0), (1, 0)]):
                self.assertEqual(after_crowd(posts, crowd), (posts, 0, 0))
                self.assertEqual(crowd_steps(posts, crowd), 0)

    def test_blocks_with_count_0_between_others(self):
        self.assertEqual(after_crowd(LRL, [(1, 0), (2, 1), (3, 0), (2, 1), (1, 0)]), after_crowd(LRL, [(2, 2)]))
        self.assertEqual(crowd_steps(LRL, [(1, 0), (2, 1), (3, 0), (2, 1), (1, 0)]), crowd_steps(LRL, [(2, 2)]))

    def test_one_walker_is_a_walk(self):
        for text in small_lines(6):
            posts = to_posts(text)
            for place in range(1, len(text) + 1):
                self.assertEqual(after_crowd(posts, [(place, 1)])[0], posts_after(posts, place))
                self.assertEqual(crowd_steps(posts, [(place, 1)]), count_steps(posts, place))

    def test_by_name(self):
        self.assertEqual(after_crowd(crowd=[(2, 2)], posts=LRL), ((("R", 1), ("L", 2)), 1, 1))
        self.assertEqual(crowd_steps(crowd=[(2, 1)], posts=LRL), 4)
        self.assertEqual(crowd_steps(LRL, crowd=[(2, 1)]), 4)

    def test_arguments_stay_as_they_are(self):
        crowd = [(2, 2), (1, 0), (3, 5)]
        before = after_crowd(LRL, crowd), crowd_steps(LRL, crowd)
        self.assertEqual(crowd, [(2, 2), (1, 0), (3, 5)])
        crowd.append((1, 1))
        self.assertEqual((after_crowd(LRL, crowd[:3]), crowd_steps(LRL, crowd[:3])), before)
        self.assertEqual(before, (after_crowd(LRL, [(2, 2), (1, 0), (3, 5)]), crowd_steps(LRL, [(2, 2), (3, 5)])))

    def test_values_that_are_no_crowd(self):
        for function in (after_crowd, crowd_steps):
            for crowd in NO_CROWDS:
                self.assert_error(InvalidCrowd, function, LRL, crowd)

    def test_posts_are_checked_before_the_crowd(self):
        for function in (after_crowd, crowd_steps):
            for value in NO_POSTS:
                self.assert_error(InvalidPosts, function, value, [(1, 1)])
                self.assert_error(InvalidPosts, function, value, None)
            for crowd in NO_CROWDS:
                self.assert_error(InvalidPosts, function, (("L", 1), ("L", 2)), crowd)
                self.assert_error(InvalidPosts, function, crowd=crowd, posts=())


class Large(CrowdCase):

    def setUp(self):
        self.enterContext(time_limit(60))

    def round_trip(self, settled, place):
        """After how many walkers a settled text is the same again, the right exits and the steps, step by step."""
        now, ends, steps = let_walk(settled, [place])
        while now != settled:
            now, more_ends, more_steps = let_walk(now, [place])
            ends, steps = ends + more_ends, steps + more_steps
        return len(ends), ends.count("R"), steps

    def test_counts_of_80_digits(self):
        # Settled posts come back, so that a great count does what a small one and many rounds do.
        for text in ("L", "R", "LRL", "RRLLL", "LLRLRRLR", "LLLLLRRRRR", "LRLRLRLRLRL"):
            for place in range(1, len(text) + 1):
                for extra in range(3):
                    settled, _, _ = let_walk(text, [place] * 2 * len(text))
                    self.assertTrue(text_is_settled(settled))
                    walkers, right, steps = self.round_trip(settled, place)
                    rounds = 10 ** 80 // walkers - 5
                    few = 2 * len(text) + extra
                    after, ends, few_steps = let_walk(text, [place] * few)
                    crowd = [(place, few + rounds * walkers)]
                    expected = (
                        to_posts(after), ends.count("L") + rounds * (walkers - right), ends.count("R") + rounds * right,
                    )
                    self.assertEqual(after_crowd(to_posts(text), crowd), expected)
                    self.assertEqual(crowd_steps(to_posts(text), crowd), few_steps + rounds * steps)

    def test_few_walkers_on_long_lines(self):
        for posts in (longer(SHORT, TIMES), longer(MIRRORED, TIMES), longer((("L", 1), ("R", 3)), TIMES)):
            length = line_length(posts)
            crowds = (
                [(place, at % 4) for at, place in enumerate(range(1, length, length // 99))],
                [(1 + at * at, 1 + at % 3) for at in range(100)],
                [(length - 1 - at * at, 1 + at % 3) for at in range(100)],
                [(1 + at, 2) if at % 2 else (length - at - 1, 3) for at in range(100)],
            )
            for crowd in crowds:
                after, ends = walked(posts, *places_of(crowd))
                self.assertEqual(after_crowd(posts, crowd), (after, ends.count("L"), ends.count("R")))
                steps, now = 0, posts
                for place in places_of(crowd):
                    steps += count_steps(now, place)
                    now = posts_after(now, place)
                self.assertEqual(crowd_steps(posts, crowd), steps)

    def test_a_hundred_great_blocks(self):
        for posts in (longer(SHORT, TIMES), longer(MIRRORED, TIMES)):
            length = line_length(posts)
            crowd = [((at * at * TIMES + 7 * at) % (length - 1) + 1, 10 ** 79 * (at % 9 + 1) + at) for at in range(100)]
            after, left, right = after_crowd(posts, crowd)
            self.assertEqual(left + right, sum(count for place, count in crowd))
            moved = sum(place * count for place, count in crowd)
            self.assertEqual(count_right(posts) + moved, right * length + count_right(after))
            self.assertEqual([side for side, count in after], ["R", "L"])
            self.assertEqual(after_crowd(posts, crowd[::-1]), (after, left, right))
            self.assertEqual(crowd_steps(posts, crowd[::-1]), crowd_steps(posts, crowd))

    def test_great_blocks_before_the_posts_are_settled(self):
        many = 10 ** 31
        posts = (("L", 10 * many), ("R", 10 * many), ("L", 10 * many), ("R", 10 * many))
        crowd = [(1, many), (40 * many, many)]
        after = (("R", many), ("L", 9 * many), ("R", 10 * many), ("L", 10 * many), ("R", 9 * many), ("L", many))
        self.assertEqual(after_crowd(posts, crowd), (after, many, many))
        # The k-th walker from place 1 makes 2 * k - 1 steps, and so does the k-th one from the last place.
        self.assertEqual(crowd_steps(posts, crowd), 2 * many * many)


if __name__ == "__main__":
    unittest.main()
