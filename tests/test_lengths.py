"""Point [20]: the numbers of steps that occur."""

import itertools
import unittest

from swingposts.errors import InvalidNumber, InvalidPlace
from swingposts.lengths import posts_with_steps, step_range
from swingposts.posts import count_right, is_posts, line_length
from swingposts.walks import count_steps, exit_end

from tests.helpers import ErrorCase, Unfriendly, time_limit, to_text, walk, walk_end

NO_LENGTHS = (1, 0, -1, -10 ** 80, True, False, 2.0, 4.0, "4", "", b"4", None, [4], (4,), {4}, Unfriendly())
NO_RIGHTS = (4, 5, 10 ** 80, -1, -10 ** 80, True, False, 1.0, "1", "", b"1", None, [1], (1,), {1}, Unfriendly())
NO_PLACES = (4, 5, 10 ** 80, 0, -1, -10 ** 80, True, False, 1.0, "1", "", b"1", None, [1], (1,), {1}, Unfriendly())
NO_STEPS = (-1, -10 ** 80, True, False, 2.0, "2", "", b"2", None, [2], (2,), {2}, Unfriendly())


def texts_with(many_posts, right):
    """All texts of so many posts of which so many point right."""
    for places in itertools.combinations(range(many_posts), right):
        yield "".join("R" if at in places else "L" for at in range(many_posts))


def small_starts(longest):
    for length in range(2, longest + 1):
        for right in range(length):
            for place in range(1, length):
                yield length, right, place


class AllSmallLines(ErrorCase):

    def test_step_range(self):
        for length, right, place in small_starts(10):
            texts = list(texts_with(length - 1, right))
            end, least, greatest = step_range(length, right, place)
            self.assertEqual({walk_end(text, place) for text in texts}, {end})
            steps = {len(walk(text, place)[0]) - 1 for text in texts}
            self.assertEqual(steps, set(range(least, greatest + 1, 2)), (length, right, place))
            self.assertEqual((greatest - least) % 2, 0)

    def test_posts_with_steps(self):
        for length, right, place in small_starts(10):
            found = {len(walk(text, place)[0]) - 1 for text in texts_with(length - 1, right)}
            for steps in range(max(found) + 5):
                posts = posts_with_steps(length, right, place, steps)
                if steps in found:
                    self.assertIs(is_posts(posts), True)
                    self.assertEqual((line_length(posts), count_right(posts)), (length, right))
                    self.assertEqual(len(walk(to_text(posts), place)[0]) - 1, steps)
                else:
                    self.assertIsNone(posts, (length, right, place, steps))


class Lengths(ErrorCase):

    def test_the_shortest_line(self):
        self.assertEqual([step_range(2, 0, 1), step_range(2, 1, 1)], [("L", 1, 1), ("R", 1, 1)])
        self.assertEqual([posts_with_steps(2, 0, 1, steps) for steps in range(4)], [None, (("L", 1),), None, None])
        self.assertEqual([posts_with_steps(2, 1, 1, steps) for steps in range(4)], [None, (("R", 1),), None, None])

    def test_all_posts_on_one_side(self):
        self.assertEqual([step_range(6, 0, 3), step_range(6, 5, 3)], [("L", 3, 3), ("R", 3, 3)])
        self.assertEqual([posts_with_steps(6, 0, 3, 3), posts_with_steps(6, 5, 3, 3)], [(("L", 5),), (("R", 5),)])

    def test_other_parity(self):
        self.assertEqual(step_range(9, 3, 4), ("L", 4, 28))
        for steps in range(5, 28, 2):
            self.assertIsNone(posts_with_steps(9, 3, 4, steps))

    def test_below_and_beyond(self):
        for steps in (0, 2, 30, 10 ** 80):
            self.assertIsNone(posts_with_steps(9, 3, 4, steps))
        self.assertIsNotNone(posts_with_steps(9, 3, 4, 4))
        self.assertIsNotNone(posts_with_steps(9, 3, 4, 28))

    def test_kinds_of_values(self):
        self.assertIs(type(step_range(4, 1, 2)), tuple)
        self.assertEqual([type(value) for value in step_range(4, 1, 2)], [str, int, int])
        self.assertEqual([type(value) for value in step_range(4, 3, 2)], [str, int, int])

    def test_by_name(self):
        self.assertEqual(step_range(place=2, right=1, length=4), ("L", 2, 6))
        self.assertEqual(posts_with_steps(steps=6, place=2, right=1, length=4), (("R", 1), ("L", 2)))
        self.assertEqual(posts_with_steps(4, 1, place=2, steps=6), (("R", 1), ("L", 2)))

    def test_errors(self):
        for length in NO_LENGTHS:
            self.assert_error(InvalidNumber, step_range, length, 0, 1)
            self.assert_error(InvalidNumber, posts_with_steps, length, 0, 1, 1)
        for right in NO_RIGHTS:
            self.assert_error(InvalidNumber, step_range, 4, right, 1)
            self.assert_error(InvalidNumber, posts_with_steps, 4, right, 1, 1)
        for place in NO_PLACES:
            self.assert_error(InvalidPlace, step_range, 4, 1, place)
            self.assert_error(InvalidPlace, posts_with_steps, 4, 1, place, 1)
        for steps in NO_STEPS:
            self.assert_error(InvalidNumber, posts_with_steps, 4, 1, 1, steps)
            self.assert_error(InvalidNumber, posts_with_steps, 4, 3, 3, steps)

    def test_order_of_errors(self):
        for length in NO_LENGTHS:
            self.assert_error(InvalidNumber, step_range, length, None, 0)
            self.assert_error(InvalidNumber, posts_with_steps, length, 0, None, 1)
        for right in NO_RIGHTS:
            self.assert_error(InvalidNumber, step_range, 4, right, 0)
            self.assert_error(InvalidNumber, posts_with_steps, 4, right, 0, 1)
            self.assert_error(InvalidNumber, step_range, place=None, right=right, length=4)
        for place in NO_PLACES:
            self.assert_error(InvalidPlace, posts_with_steps, 4, 1, place, -1)
            self.assert_error(InvalidPlace, posts_with_steps, 4, 1, place, None)
        for steps in NO_STEPS:
            self.assert_error(InvalidNumber, posts_with_steps, 4, 5, 0, steps)
            self.assert_error(InvalidPlace, posts_with_steps, 4, 1, 4, steps)


class Large(ErrorCase):

    def setUp(self):
        self.enterContext(time_limit(60))

    def test_lengths_of_80_digits(self):
        length = 10 ** 80 - 1
        for right in (0, 1, 10 ** 40, length // 2, length - 10 ** 30, length - 2, length - 1):
            for place in (1, 2, 10 ** 35 + 1, length // 2, length // 2 + 1, length - 10 ** 50, length - 1):
                end, least, greatest = step_range(length, right, place)
                middle = least + (greatest - least) // 4 * 2
                for steps in (least, least + 2, least + 2 * 10 ** 33, middle, greatest - 2, greatest):
                    if least <= steps <= greatest:
                        posts = posts_with_steps(length, right, place, steps)
                        self.assertIs(is_posts(posts), True)
                        self.assertEqual((line_length(posts), count_right(posts)), (length, right))
                        self.assertEqual((exit_end(posts, place), count_steps(posts, place)), (end, steps))
                for steps in (least - 1, least + 1, greatest + 1, greatest + 2):
                    self.assertIsNone(posts_with_steps(length, right, place, steps))

    def test_the_ends_of_the_range(self):
        self.assertEqual(step_range(10 ** 80, 0, 10 ** 79), ("L", 10 ** 79, 10 ** 79))
        self.assertEqual(step_range(10 ** 80, 10 ** 79, 10 ** 79), ("L", 10 ** 79, 2 * 10 ** 158 + 10 ** 79))
        self.assertEqual(step_range(10 ** 80, 10 ** 80 - 2, 10 ** 80 - 1), ("R", 1, 3))


if __name__ == "__main__":
    unittest.main()
