"""Points [26] and [27]: a live line."""

import itertools
import random
import unittest

from swingposts.crowds import after_crowd, crowd_steps
from swingposts.errors import InvalidPlace, InvalidPosts, InvalidText, NothingToUndo
from swingposts.live import LiveLine
from swingposts.posts import count_right, line_length
from swingposts.walks import count_steps, exit_end, named_ends, posts_after, walked

from tests.helpers import (
    MIRRORED, SHORT, TIMES, ErrorCase, let_walk, longer, mirror_end, mirror_posts, small_lines, time_limit, to_posts,
)
from tests.test_posts import LRL, NO_PLACES, NO_POSTS
from tests.test_texts import NO_POSTS_TEXTS, NO_TEXTS


def state(line):
    """All that a live line shows of itself."""
    return line.now, line.right_now, line.steps_made, line.ends_seen, len(line), line.told()


def lived(text, places):
    """What a live line that began with the text shows after walks from the places, step by step."""
    after, ends, steps = let_walk(text, places)
    return to_posts(after), after.count("R"), steps, tuple(ends), len(places), [f"walks {len(places)}"]


class LiveCase(ErrorCase):

    def assert_unchanged(self, line, kind, function, *args, **kwargs):
        """The call raises the error, and the line is the same afterwards."""
        before = state(line)
        self.assert_error(kind, function, *args, **kwargs)
        self.assertEqual(state(line), before)


class StepByStep(LiveCase):

    def test_walks(self):
        for text in small_lines(4):
            for places in itertools.product(range(1, len(text) + 1), repeat=3):
                line = LiveLine(to_posts(text))
                for many, place in enumerate(places):
                    self.assertEqual(state(line), lived(text, places[:many]))
                    self.assertEqual(line.walk(place), let_walk(text, places[:many + 1])[1][-1])
                self.assertEqual(state(line), lived(text, places))

    def test_walks_and_undo(self):
        chance = random.Random(26)
        for _ in range(150):
            text = "".join(chance.choice("LR") for _ in range(chance.randint(1, 9)))
            line, places = LiveLine(to_posts(text)), []
            for _ in range(25):
                if chance.random() < 0.6:
                    places.append(chance.randint(1, len(text)))
                    self.assertEqual(line.walk(places[-1]), let_walk(text, places)[1][-1])
                elif places:
                    self.assertEqual(line.undo(), places.pop())
                else:
                    self.assert_unchanged(line, NothingToUndo, line.undo)
                self.assertEqual(state(line), lived(text, places))

    def test_try_walks(self):
        for text in small_lines(4):
            line = LiveLine(to_posts(text))
            for many in range(4):
                for places in itertools.product(range(1, len(text) + 1), repeat=many):
                    ends = line.try_walks(*places)
                    self.assertIs(type(ends), list)
                    self.assertEqual(ends, let_walk(text, places)[1])
                    self.assertEqual(state(line), lived(text, []))

    def test_try_walks_after_walks(self):
        for text in ("LRL", "RLLR", "LLRRL"):
            line, places = LiveLine(to_posts(text)), [2, 3, 1]
            for place in places:
                line.walk(place)
            for tried in itertools.product(range(1, len(text) + 1), repeat=2):
                self.assertEqual(line.try_walks(*tried), let_walk(text, [*places, *tried])[1][3:])
                self.assertEqual(state(line), lived(text, places))


class Live(LiveCase):

    def test_a_new_line(self):
        line = LiveLine(LRL)
        self.assertEqual(state(line), (LRL, 1, 0, (), 0, ["walks 0"]))
        self.assert_unchanged(line, NothingToUndo, line.undo)

    def test_undo_back_to_the_beginning_and_once_more(self):
        line = LiveLine(LRL)
        seen = []
        for place in (2, 2, 3, 1, 1):
            seen.append(state(line))
            line.walk(place)
        for place in (1, 1, 3, 2, 2):
            self.assertEqual(line.undo(), place)
            self.assertEqual(state(line), seen.pop())
        self.assertEqual(line.now, LRL)
        for _ in range(2):
            self.assert_unchanged(line, NothingToUndo, line.undo)
        self.assertEqual(line.walk(2), "L")

    def test_try_no_walks(self):
        line = LiveLine(LRL)
        self.assertEqual(line.try_walks(), [])
        line.walk(2)
        self.assertEqual(line.try_walks(), [])
        self.assertEqual(len(line), 1)

    def test_begin(self):
        line = LiveLine(LRL)
        line.walk(2)
        for posts in ((("L", 5),), (("R", 1),), LRL, longer(SHORT, TIMES)):
            self.assertIsNone(line.begin(posts))
            self.assertEqual(state(line), (posts, count_right(posts), 0, (), 0, ["walks 0"]))
            self.assert_unchanged(line, NothingToUndo, line.undo)
            line.walk(1)
            self.assertEqual(len(line), 1)
            self.assertEqual(line.now, posts_after(posts, 1))

    def test_begin_takes_a_line_of_another_length(self):
        line = LiveLine(LRL)
        line.begin((("L", 1),))
        self.assert_unchanged(line, InvalidPlace, line.walk, 2)
        line.begin((("R", 5),))
        self.assertEqual(line.walk(5), "R")

    def test_errors_change_nothing(self):
        for walks in ((), (2,), (2, 2, 1)):
            line = LiveLine(LRL)
            for place in walks:
                line.walk(place)
            for place in NO_PLACES:
                self.assert_unchanged(line, InvalidPlace, line.walk, place)
                self.assert_unchanged(line, InvalidPlace, line.try_walks, place)
                self.assert_unchanged(line, InvalidPlace, line.try_walks, 2, 2, place)
                self.assert_unchanged(line, InvalidPlace, line.try_walks, place, 2)
            for value in NO_POSTS:
                self.assert_unchanged(line, InvalidPosts, line.begin, value)
            self.assertEqual([line.undo() for _ in walks], list(walks[::-1]))

    def test_errors_of_new_lines(self):
        for value in NO_POSTS:
            self.assert_error(InvalidPosts, LiveLine, value)
            self.assert_error(InvalidPosts, LiveLine, posts=value)

    def test_read(self):
        line = LiveLine.read("L1 R1 L1")
        self.assertIs(type(line), LiveLine)
        self.assertEqual(state(line), state(LiveLine(LRL)))
        for value in (*NO_TEXTS, *NO_POSTS_TEXTS):
            self.assert_error(InvalidText, LiveLine.read, value)

    def test_read_off_an_object(self):
        line = LiveLine(LRL)
        other = line.read("R3")
        self.assertIs(type(other), LiveLine)
        self.assertEqual((other.now, line.now), ((("R", 3),), LRL))

    def test_is_valid(self):
        for value in NO_POSTS:
            self.assertIs(LiveLine.is_valid(value), False)
        for posts in (LRL, (("R", 10 ** 80),), SHORT):
            self.assertIs(LiveLine.is_valid(posts), True)
            self.assertIs(LiveLine(LRL).is_valid(posts), True)

    def test_ends(self):
        self.assertEqual(LiveLine.ENDS, ("L", "R"))
        self.assertEqual(LiveLine(LRL).ENDS, ("L", "R"))
        self.assertIs(type(LiveLine.ENDS), tuple)

    def test_properties_cannot_be_assigned(self):
        line = LiveLine(LRL)
        for name in ("now", "right_now", "steps_made", "ends_seen"):
            with self.assertRaises(AttributeError):
                setattr(line, name, 1)
        self.assertEqual(state(line), state(LiveLine(LRL)))

    def test_kinds_of_values(self):
        line = LiveLine(LRL)
        line.walk(2)
        kinds = [type(value) for value in state(line)]
        self.assertEqual(kinds, [tuple, int, int, tuple, int, list])
        self.assertIs(type(line.undo()), int)

    def test_by_name(self):
        line = LiveLine(posts=LRL)
        self.assertEqual(line.walk(place=2), "L")
        self.assertIsNone(line.begin(posts=LRL))
        self.assertEqual(LiveLine.read(text="R3").now, (("R", 3),))
        self.assertIs(LiveLine.is_valid(value=LRL), True)

    def test_several_lines_side_by_side(self):
        lines = [LiveLine(LRL) for _ in range(3)]
        lines[0].walk(2)
        lines[1].walk(3)
        lines[1].walk(1)
        lines[0].begin((("R", 2),))
        self.assertEqual([line.now for line in lines], [(("R", 2),), walked(LRL, 3, 1)[0], LRL])
        self.assertEqual([len(line) for line in lines], [0, 2, 0])
        self.assertEqual(lines[1].undo(), 1)
        self.assert_error(NothingToUndo, lines[2].undo)
        self.assertEqual(lines[1].ends_seen, ("R",))

    def test_changed_results_have_no_effect(self):
        line = LiveLine(LRL)
        line.walk(2)
        before = state(line)
        told, tried = line.told(), line.try_walks(1, 2)
        told.append("more")
        tried.clear()
        self.assertIsNot(line.told(), line.told())
        self.assertIsNot(line.try_walks(), line.try_walks())
        self.assertEqual(state(line), before)
        self.assertEqual(line.try_walks(1, 2), walked(line.now, 1, 2)[1])

    def test_values_seen_before_stay(self):
        line = LiveLine(LRL)
        line.walk(2)
        now, ends = line.now, line.ends_seen
        line.walk(1)
        line.undo()
        line.undo()
        self.assertEqual((now, ends), ((("R", 3),), ("L",)))


class BesideOtherModules(LiveCase):

    def setUp(self):
        self.enterContext(time_limit(60))

    def some_lines(self):
        yield from map(to_posts, ("L", "R", "LRL", "LLRLRR", "RRRLLL", "LRLRLRLRLR"))
        yield longer(SHORT, TIMES)
        yield longer(MIRRORED, TIMES)

    def some_places(self, posts):
        chance = random.Random(line_length(posts))
        return [chance.randint(1, line_length(posts) - 1) for _ in range(12)]

    def test_walks(self):
        for posts in self.some_lines():
            line, now, steps = LiveLine(posts), posts, 0
            for place in self.some_places(posts):
                steps += count_steps(now, place)
                self.assertEqual(line.walk(place), exit_end(now, place))
                now = posts_after(now, place)
                self.assertEqual((line.now, line.right_now, line.steps_made), (now, count_right(now), steps))

    def test_many_walks(self):
        for posts in self.some_lines():
            places = self.some_places(posts)
            line = LiveLine(posts)
            self.assertEqual(line.try_walks(*places), walked(posts, *places)[1])
            ends = [line.walk(place) for place in places]
            self.assertEqual((line.now, list(line.ends_seen)), walked(posts, *places))
            names = {f"w{at}": place for at, place in enumerate(places)}
            self.assertEqual(list(named_ends(posts, **names).values()), ends)
            for order in (sorted(places), places[::-1]):
                crowd = [(place, 1) for place in order]
                self.assertEqual((line.now, ends.count("L"), ends.count("R")), after_crowd(posts, crowd))
                self.assertEqual(line.steps_made, crowd_steps(posts, crowd))
            for place in places[::-1]:
                self.assertEqual(line.undo(), place)
            self.assertEqual((line.now, line.steps_made), (posts, 0))

    def test_mirrored(self):
        for posts in self.some_lines():
            line, behind, length = LiveLine(posts), LiveLine(mirror_posts(posts)), line_length(posts)
            for place in self.some_places(posts):
                self.assertEqual(behind.walk(length - place), mirror_end(line.walk(place)))
                self.assertEqual(behind.now, mirror_posts(line.now))
                self.assertEqual(behind.right_now, length - 1 - line.right_now)
                self.assertEqual((behind.steps_made, behind.told()), (line.steps_made, line.told()))

    def test_a_hundred_walks(self):
        posts = longer(SHORT, TIMES)
        places = [1 + at * at * TIMES % (line_length(posts) - 1) for at in range(1, 101)]
        line = LiveLine(posts)
        for place in places:
            line.walk(place)
        self.assertEqual((line.now, list(line.ends_seen)), walked(posts, *places))
        self.assertEqual(line.told(), ["walks 100"])


if __name__ == "__main__":
    unittest.main()
