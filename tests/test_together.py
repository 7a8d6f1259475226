"""Over the whole program: what the modules tell of the same walks agrees, also for the mirrored line."""

import random
import unittest

from swingposts.before import can_be_before, count_all_before, count_before, nth_before
from swingposts.crowds import after_crowd, crowd_steps
from swingposts.exits import contradiction, next_end, possible_rights
from swingposts.kinds import LimitedLine, LimitedTollLine, TollLine
from swingposts.lengths import posts_with_steps, step_range
from swingposts.live import LiveLine
from swingposts.pairs import equal_after, place_to_merge, same_exits
from swingposts.paths import count_visits, farthest, path, place_after
from swingposts.posts import count_right, line_length, place_of, side_at, sum_right
from swingposts.reaching import can_become, count_reachable, nth_reachable, reachable, walkers_to, why_not_become
from swingposts.streams import is_settled, nth_exit, nth_leaver, period, walkers_to_settle
from swingposts.texts import format_crowd, format_exits, format_posts, parse_crowd, parse_exits, parse_posts
from swingposts.walks import count_steps, exit_end, named_ends, posts_after, walked

from tests.helpers import (
    MIRRORED, SHORT, TIMES, ErrorCase, longer, mirror_end, mirror_posts, small_lines, time_limit, to_posts,
)


def some_places(posts):
    """All places of a short line, and some of a long one."""
    length = line_length(posts)
    if length < 12:
        return list(range(1, length))
    return [1, 2, length // 50, length // 3, length // 2 + 5, length - length // 40, length - 1]


def some_lines():
    for text in small_lines(6):
        yield to_posts(text)
    yield longer(SHORT, TIMES)
    yield longer(MIRRORED, TIMES)
    yield (("R", 90), ("L", 20), ("R", 1), ("L", 89))


class OneWalk(ErrorCase):

    def setUp(self):
        self.enterContext(time_limit(120))

    def test_walks_crowds_streams_and_lengths(self):
        for posts in some_lines():
            for place in some_places(posts):
                after, end, steps = posts_after(posts, place), exit_end(posts, place), count_steps(posts, place)
                self.assertEqual(walked(posts, place), (after, [end]))
                self.assertEqual(named_ends(posts, one=place), {"one": end})
                self.assertEqual(after_crowd(posts, [(place, 1)]), (after, int(end == "L"), int(end == "R")))
                self.assertEqual(crowd_steps(posts, [(place, 1)]), steps)
                self.assertEqual(nth_exit(posts, place, 0), end)
                self.assertEqual(nth_leaver(posts, place, end, 0), 0)
                range_end, least, greatest = step_range(line_length(posts), count_right(posts), place)
                self.assertEqual(range_end, end)
                self.assertIn(steps, range(least, greatest + 1, 2))
                other = posts_with_steps(line_length(posts), count_right(posts), place, steps)
                self.assertEqual((count_steps(other, place), exit_end(other, place)), (steps, end))

    def test_paths(self):
        for posts in some_lines():
            for place in some_places(posts):
                steps, end = count_steps(posts, place), exit_end(posts, place)
                last = 0 if end == "L" else line_length(posts)
                self.assertEqual(place_after(posts, place, steps), last)
                least, greatest = farthest(posts, place)
                self.assertTrue(least <= place <= greatest)
                after = posts_after(posts, place)
                for post in (place, least, greatest):
                    visits = count_visits(posts, place, post)
                    self.assertGreater(visits, 0)
                    self.assertEqual(visits % 2 == 1, side_at(posts, post) != side_at(after, post))
                if line_length(posts) < 12:
                    self.assertEqual(len(list(path(posts, place))), steps + 1)

    def test_reaching(self):
        for posts in some_lines():
            for place in some_places(posts):
                after = posts_after(posts, place)
                self.assertIs(can_become(posts, after), True)
                self.assertEqual(walkers_to(posts, after), [place])
                self.assertIsNone(why_not_become(posts, after))
                if line_length(posts) < 12:
                    self.assertIn(after, list(reachable(posts)))

    def test_before(self):
        for posts in some_lines():
            for place in some_places(posts):
                after = posts_after(posts, place)
                self.assertIs(can_be_before(after, place), True)
                if line_length(posts) > 201:
                    continue
                number = count_before(after, place)
                self.assertTrue(0 < number <= count_all_before(after))
                for index in {0, number // 2, number - 1}:
                    before = nth_before(after, place, index)
                    self.assertEqual(posts_after(before, place), after)
                    self.assertEqual(exit_end(before, place), exit_end(posts, place))
                    self.assertIs(can_become(before, after), True)
                if number < 50:
                    self.assertIn(posts, [nth_before(after, place, index) for index in range(number)])

    def test_what_can_be_before_can_become(self):
        for text in small_lines(5):
            goal = to_posts(text)
            for posts in map(to_posts, small_lines(5)):
                if line_length(posts) == line_length(goal) and posts != goal:
                    one = any(
                        nth_before(goal, place, index) == posts
                        for place in range(1, line_length(goal)) for index in range(count_before(goal, place))
                    )
                    self.assertEqual(one, len(walkers_to(posts, goal) or ()) == 1)


    def test_pairs_and_live_lines(self):
        for posts in some_lines():
            for place in some_places(posts):
                after, end, steps = posts_after(posts, place), exit_end(posts, place), count_steps(posts, place)
                self.assertIs(same_exits(posts, after), False)
                self.assertIsNone(place_to_merge(posts, after))
                self.assertIs(equal_after(posts, after, [(place, 1)]), False)
                for line in (LiveLine(posts), LimitedLine(posts, 1), TollLine(posts), LimitedTollLine(posts, 1, 3)):
                    self.assertEqual(line.try_walks(place), [end])
                    self.assertEqual(line.walk(place), end)
                    self.assertEqual((line.now, line.steps_made, line.ends_seen), (after, steps, (end,)))
                    self.assertEqual(line.right_now, count_right(after))
                if line_length(posts) < 202:
                    for index in {0, count_before(after, place) - 1}:
                        before = nth_before(after, place, index)
                        self.assertIs(same_exits(posts, before), True)
                        self.assertIs(equal_after(posts, before, [(place, 1)]), True)
                        self.assertLessEqual(place_to_merge(posts, before), place)

    def test_texts(self):
        for posts in some_lines():
            self.assertEqual(parse_posts(format_posts(posts)), posts)
            self.assertEqual(LiveLine.read(format_posts(posts)).now, posts)
            for place in some_places(posts):
                after = posts_after(posts, place)
                self.assertEqual(posts_after(parse_posts(format_posts(posts)), place), parse_posts(format_posts(after)))
                crowd, seen = [(place, 7), (1, 0)], [(place, exit_end(posts, place))]
                self.assertEqual(after_crowd(posts, parse_crowd(format_crowd(crowd))), after_crowd(posts, crowd))
                rights = possible_rights(line_length(posts), parse_exits(format_exits(seen)))
                self.assertTrue(rights[0] <= count_right(posts) <= rights[1])


def some_walkers(posts):
    chance = random.Random(line_length(posts))
    return [chance.randint(1, line_length(posts) - 1) for _ in range(8)]


class ManyWalks(ErrorCase):

    def setUp(self):
        self.enterContext(time_limit(120))

    def test_crowds_exits_and_reaching(self):
        for posts in some_lines():
            places = some_walkers(posts)
            after, ends = walked(posts, *places)
            crowd = [(place, 1) for place in sorted(places)]
            self.assertEqual(after_crowd(posts, crowd), (after, ends.count("L"), ends.count("R")))
            self.assertIs(can_become(posts, after), True)
            self.assertEqual(walked(posts, *walkers_to(posts, after))[0], after)
            seen, length = list(zip(places, ends)), line_length(posts)
            least, greatest = possible_rights(length, seen)
            self.assertTrue(least <= count_right(posts) <= greatest)
            self.assertIsNone(contradiction(length, seen))
            for place in some_places(posts):
                self.assertIn(next_end(length, seen, place), (None, exit_end(after, place)))

    def test_live_lines(self):
        for posts in some_lines():
            places = some_walkers(posts)
            line = LimitedTollLine(posts, limit=8, toll=2)
            ends = line.try_walks(*places)
            for many, place in enumerate(places):
                seen = list(zip(places[:many], ends))
                self.assertIn(next_end(line_length(posts), seen, place), (None, ends[many]))
                self.assertEqual(line.walk(place), ends[many])
            self.assertEqual((line.now, ends), walked(posts, *places))
            self.assertEqual(line.due, 2 * crowd_steps(posts, [(place, 1) for place in places[::-1]]))
            self.assertIs(can_become(posts, line.now), True)
            goal, back = line.now, walkers_to(posts, line.now)
            line.begin(posts)
            for place in back:
                line.walk(place)
            self.assertEqual(line.now, goal)

    def test_pairs(self):
        for posts in some_lines():
            for place in some_places(posts):
                other = after_crowd(posts, [(place, 3), (1, 2)])[0]
                self.assertIs(same_exits(posts, other), count_right(posts) == count_right(other))
                merging = place_to_merge(posts, other)
                self.assertEqual(merging is None, not same_exits(posts, other))
                if merging is not None:
                    self.assertEqual(LiveLine(posts).try_walks(merging, 1), LiveLine(other).try_walks(merging, 1))
                    self.assertIs(equal_after(posts, other, [(merging, 1)]), True)

    def test_streams_and_reaching(self):
        for posts in some_lines():
            for place in some_places(posts):
                walkers = walkers_to_settle(posts, place)
                settled = after_crowd(posts, [(place, walkers)])[0]
                self.assertIs(is_settled(settled), True)
                self.assertIs(can_become(posts, settled), True)
                self.assertEqual(count_reachable(settled), line_length(posts))
                again, left, right = after_crowd(settled, [(place, period(settled, place)[0])])
                self.assertEqual((again, right), (settled, period(settled, place)[1]))


class Mirrored(ErrorCase):

    def setUp(self):
        self.enterContext(time_limit(120))

    def pairs(self):
        for posts in some_lines():
            yield posts, mirror_posts(posts)

    def test_posts(self):
        for posts, behind in self.pairs():
            length, many = line_length(posts), line_length(posts) - 1
            self.assertEqual(line_length(behind), length)
            self.assertEqual(count_right(behind), many - count_right(posts))
            left = many * length // 2 - sum_right(posts)
            self.assertEqual(sum_right(behind), length * (many - count_right(posts)) - left)
            for place in some_places(posts):
                self.assertEqual(side_at(behind, length - place), mirror_end(side_at(posts, place)))
            if count_right(posts) > 0:
                first, last = place_of(posts, "R", 0), place_of(behind, "L", count_right(posts) - 1)
                self.assertEqual(first + last, length)

    def test_one_walk(self):
        for posts, behind in self.pairs():
            length = line_length(posts)
            for place in some_places(posts):
                other = length - place
                self.assertEqual(exit_end(behind, other), mirror_end(exit_end(posts, place)))
                self.assertEqual(posts_after(behind, other), mirror_posts(posts_after(posts, place)))
                self.assertEqual(count_steps(behind, other), count_steps(posts, place))
                self.assertEqual(farthest(behind, other), tuple(length - at for at in farthest(posts, place)[::-1]))
                self.assertEqual(count_visits(behind, other, other), count_visits(posts, place, place))
                middle = count_steps(posts, place) // 2
                self.assertEqual(place_after(behind, other, middle), length - place_after(posts, place, middle))
                end, least, greatest = step_range(length, count_right(posts), place)
                expected = (mirror_end(end), least, greatest)
                self.assertEqual(step_range(length, count_right(behind), other), expected)

    def test_many_walks(self):
        for posts, behind in self.pairs():
            length = line_length(posts)
            for place in some_places(posts):
                after, left, right = after_crowd(posts, [(place, 7)])
                self.assertEqual(after_crowd(behind, [(length - place, 7)]), (mirror_posts(after), right, left))
                self.assertEqual(crowd_steps(behind, [(length - place, 7)]), crowd_steps(posts, [(place, 7)]))
                self.assertEqual(nth_exit(behind, length - place, 5), mirror_end(nth_exit(posts, place, 5)))
                self.assertEqual(nth_leaver(behind, length - place, "L", 5), nth_leaver(posts, place, "R", 5))
                self.assertEqual(walkers_to_settle(behind, length - place), walkers_to_settle(posts, place))
                if is_settled(posts):
                    walkers, leaving, steps = period(posts, place)
                    self.assertEqual(period(behind, length - place), (walkers, walkers - leaving, steps))

    def test_walkers_one_after_another(self):
        for posts, behind in self.pairs():
            length, places = line_length(posts), some_walkers(posts)
            others = [length - place for place in places]
            after, ends = walked(posts, *places)
            mirrored_ends = [mirror_end(end) for end in ends]
            self.assertEqual(walked(behind, *others), (mirror_posts(after), mirrored_ends))
            names = {f"w{at}": place for at, place in enumerate(others)}
            self.assertEqual(list(named_ends(behind, **names).values()), mirrored_ends)
            line = LiveLine(behind)
            self.assertEqual(line.try_walks(*others), mirrored_ends)
            self.assertEqual([line.walk(place) for place in others], mirrored_ends)
            self.assertEqual(line.now, mirror_posts(after))
            seen, mirrored_seen = list(zip(places, ends)), list(zip(others, mirrored_ends))
            least, greatest = possible_rights(length, seen)
            expected = (length - 1 - greatest, length - 1 - least)
            self.assertEqual(possible_rights(length, mirrored_seen), expected)
            for place in some_places(posts):
                end = next_end(length, seen, place)
                self.assertEqual(next_end(length, mirrored_seen, length - place), mirror_end(end))
            rest = [(place, mirror_end(end)) for place, end in seen]
            mirrored_rest = [(length - place, mirror_end(end)) for place, end in rest]
            self.assertEqual(contradiction(length, mirrored_rest), contradiction(length, rest))

    def test_paths_and_lengths(self):
        for posts, behind in self.pairs():
            length, right = line_length(posts), count_right(posts)
            for place in some_places(posts):
                if length < 12:
                    places = [length - at for at in path(posts, place)]
                    self.assertEqual(list(path(behind, length - place)), places)
                steps = count_steps(posts, place)
                for wanted in (steps, steps + 1, steps + 2):
                    found = posts_with_steps(length, right, place, wanted)
                    other = posts_with_steps(length, length - 1 - right, length - place, wanted)
                    self.assertEqual(found is None, other is None)
                    if found is not None:
                        self.assertEqual(count_steps(mirror_posts(found), length - place), wanted)

    def test_pairs_of_lines(self):
        for posts, behind in self.pairs():
            length = line_length(posts)
            for place in some_places(posts):
                other = walked(posts, place, length - place)[0]
                mirrored = mirror_posts(other)
                self.assertIs(same_exits(behind, mirrored), same_exits(posts, other))
                self.assertEqual(place_to_merge(behind, mirrored) is None, place_to_merge(posts, other) is None)
                for count in (1, 5):
                    expected = equal_after(posts, other, [(place, count)])
                    self.assertIs(equal_after(behind, mirrored, [(length - place, count)]), expected)

    def test_reaching_and_before(self):
        for posts, behind in self.pairs():
            length = line_length(posts)
            self.assertEqual(count_reachable(behind), count_reachable(posts))
            goal = nth_reachable(posts, count_reachable(posts) // 2)
            self.assertIs(can_become(behind, mirror_posts(goal)), True)
            self.assertEqual(len(walkers_to(behind, mirror_posts(goal))), len(walkers_to(posts, goal)))
            for place in some_places(posts):
                self.assertIs(can_be_before(behind, length - place), can_be_before(posts, place))
            if length < 202:
                self.assertEqual(count_all_before(behind), count_all_before(posts))
                for place in some_places(posts):
                    self.assertEqual(count_before(behind, length - place), count_before(posts, place))


if __name__ == "__main__":
    unittest.main()
