"""Point [28]: kinds of live lines."""

import unittest

from swingposts.errors import InvalidNumber, InvalidPlace, InvalidPosts, InvalidText, NothingToUndo, TooManyWalks
from swingposts.kinds import LimitedLine, LimitedTollLine, TollLine
from swingposts.live import LiveLine
from swingposts.posts import line_length
from swingposts.walks import walked

from tests.helpers import MIRRORED, SHORT, TIMES, longer, time_limit, to_posts
from tests.test_live import LiveCase, lived, state
from tests.test_posts import LRL, NO_INDEXES, NO_PLACES, NO_POSTS
from tests.test_texts import NO_POSTS_TEXTS, NO_TEXTS

LIMITED = (LimitedLine, LimitedTollLine)
TOLLED = (TollLine, LimitedTollLine)
KINDS = (LimitedLine, TollLine, LimitedTollLine)
BOTH = {"limit": 10 ** 80, "toll": 10 ** 80}


class Classes(LiveCase):

    def test_bases(self):
        self.assertTrue(issubclass(LimitedLine, LiveLine) and issubclass(TollLine, LiveLine))
        self.assertFalse(issubclass(LimitedLine, TollLine) or issubclass(TollLine, LimitedLine))
        line = LimitedTollLine(LRL)
        for kind in (LimitedLine, TollLine, LiveLine):
            self.assertIsInstance(line, kind)

    def test_they_do_what_a_live_line_does(self):
        for kind in KINDS:
            for text in ("LRL", "RLLR", "L"):
                line, places = kind(to_posts(text)), []
                for place in (1, len(text), 1, (len(text) + 1) // 2):
                    places.append(place)
                    self.assertEqual(line.walk(place), lived(text, places)[3][-1])
                    self.assertEqual(state(line)[:5], lived(text, places)[:5])
                    self.assertEqual(line.told()[0], f"walks {len(places)}")
                self.assertEqual(line.try_walks(1, 1), list(lived(text, [*places, 1, 1])[3][-2:]))
                while places:
                    self.assertEqual(line.undo(), places.pop())
                    self.assertEqual(state(line)[:5], lived(text, places)[:5])
                self.assert_unchanged(line, NothingToUndo, line.undo)
                self.assertEqual((line.ENDS, kind.ENDS), (("L", "R"), ("L", "R")))
                self.assertIs(kind.is_valid(LRL), True)
                self.assertIs(kind.is_valid([]), False)

    def test_read(self):
        for kind in KINDS:
            line = kind.read("L1 R1 L1")
            self.assertIs(type(line), kind)
            self.assertEqual(state(line), state(kind(LRL)))
            for value in (*NO_TEXTS, *NO_POSTS_TEXTS):
                self.assert_error(InvalidText, kind.read, value)
        self.assertEqual(LimitedTollLine.read("R1").told(), ["walks 0", "due 0", "left 10"])

    def test_read_uses_the_default_limit_and_toll(self):
        line = LimitedTollLine(LRL, 2, 7).read("L1 R1 L1")
        line.walk(2)
        self.assertEqual(line.told(), ["walks 1", "due 4", "left 9"])
        self.assertEqual(TollLine(LRL, 9).read("L1").told(), ["walks 0", "due 0"])
        self.assertEqual(LimitedLine(LRL, 0).read("L1").told(), ["walks 0", "left 10"])

    def test_each_has_its_own_told(self):
        for kind in (LiveLine, *KINDS):
            self.assertIn("told", vars(kind))
        self.assertIn("due", vars(TollLine))

    def test_values_that_are_no_posts(self):
        for kind in KINDS:
            for value in NO_POSTS:
                self.assert_error(InvalidPosts, kind, value)
                self.assert_error(InvalidPosts, kind, value, -1)
                self.assert_error(InvalidPosts, kind, posts=value)

    def test_limits_and_tolls_that_are_none(self):
        for number in NO_INDEXES:
            for kind in KINDS:
                self.assert_error(InvalidNumber, kind, LRL, number)
                self.assert_error(InvalidPosts, kind, (), number)
            self.assert_error(InvalidNumber, LimitedLine, LRL, limit=number)
            self.assert_error(InvalidNumber, TollLine, LRL, toll=number)
            self.assert_error(InvalidNumber, LimitedTollLine, LRL, limit=number)
            self.assert_error(InvalidNumber, LimitedTollLine, LRL, toll=number)
            self.assert_error(InvalidNumber, LimitedTollLine, LRL, 3, number)
            self.assert_error(InvalidNumber, LimitedTollLine, LRL, number, number)
            self.assert_error(InvalidPosts, LimitedTollLine, [], 3, number)
            self.assert_error(InvalidPosts, LimitedTollLine, toll=number, limit=number, posts=None)

    def test_by_position_and_by_name(self):
        self.assertEqual(LimitedLine(LRL, 3).told(), LimitedLine(limit=3, posts=LRL).told())
        self.assertEqual(LimitedLine(LRL, 3).told(), ["walks 0", "left 3"])
        lines = (LimitedTollLine(LRL, 3, 5), LimitedTollLine(toll=5, limit=3, posts=LRL), LimitedTollLine(LRL, 3, toll=5))
        for line in lines:
            self.assertEqual(line.walk(place=2), "L")
            self.assertEqual(line.told(), ["walks 1", "due 20", "left 2"])
        for line in (TollLine(LRL, 5), TollLine(toll=5, posts=LRL)):
            line.walk(2)
            self.assertEqual((line.due, line.told()), (20, ["walks 1", "due 20"]))
        line = LimitedTollLine(LRL, toll=5)
        line.walk(2)
        self.assertEqual(line.told(), ["walks 1", "due 20", "left 9"])


class Limits(LiveCase):

    def test_limits(self):
        for kind in LIMITED:
            for limit in (0, 1, 2, 5, 10):
                line = kind(LRL, limit)
                for walks in range(limit):
                    self.assertEqual(line.told()[-1], f"left {limit - walks}")
                    line.walk(2)
                for place in (1, 2, 3):
                    self.assert_unchanged(line, TooManyWalks, line.walk, place)
                self.assertEqual(line.told()[-1], "left 0")
                self.assertEqual(line.ends_seen, tuple(walked(LRL, *[2] * limit)[1]))

    def test_default_limit(self):
        for kind in LIMITED:
            line = kind(LRL)
            for _ in range(10):
                line.walk(1)
            self.assert_unchanged(line, TooManyWalks, line.walk, 1)
            self.assertEqual(line.told()[-1], "left 0")

    def test_what_undo_frees(self):
        for kind in LIMITED:
            line = kind(LRL, 2)
            line.walk(1)
            line.walk(2)
            self.assert_unchanged(line, TooManyWalks, line.walk, 3)
            self.assertEqual(line.undo(), 2)
            self.assertEqual(line.told()[-1], "left 1")
            self.assertEqual(line.walk(3), walked(LRL, 1, 3)[1][1])
            self.assert_unchanged(line, TooManyWalks, line.walk, 3)
            self.assertEqual([line.undo(), line.undo()], [3, 1])
            self.assertEqual(line.told()[-1], "left 2")

    def test_invalid_places_come_first(self):
        for kind in LIMITED:
            for limit in (0, 1):
                line = kind(LRL, limit)
                for _ in range(limit):
                    line.walk(2)
                for place in NO_PLACES:
                    self.assert_unchanged(line, InvalidPlace, line.walk, place)
                    self.assert_unchanged(line, InvalidPlace, line.try_walks, place)
                    self.assert_unchanged(line, InvalidPlace, line.try_walks, 1, 2, 3, place)
                    self.assert_unchanged(line, InvalidPlace, line.try_walks, place, 1, 2)

    def test_try_as_many_walks_as_are_allowed_and_one_more(self):
        for kind in LIMITED:
            for limit in (0, 1, 3):
                for walks in range(limit + 1):
                    line = kind(LRL, limit)
                    for _ in range(walks):
                        line.walk(3)
                    before = state(line)
                    for many in range(limit - walks + 1):
                        places = [1 + at % 3 for at in range(many)]
                        self.assertEqual(line.try_walks(*places), walked(line.now, *places)[1])
                        self.assertEqual(state(line), before)
                    for many in (limit - walks + 1, limit - walks + 2):
                        self.assert_unchanged(line, TooManyWalks, line.try_walks, *[2] * many)

    def test_begin_keeps_the_limit(self):
        for kind in LIMITED:
            line = kind(LRL, 2)
            line.walk(1)
            line.walk(1)
            for value in NO_POSTS:
                self.assert_unchanged(line, InvalidPosts, line.begin, value)
            self.assertIsNone(line.begin(posts=(("R", 5),)))
            self.assertEqual(line.told()[-1], "left 2")
            self.assertEqual([line.walk(1), line.walk(5)], ["R", "L"])
            self.assert_unchanged(line, TooManyWalks, line.walk, 1)

    def test_a_toll_line_has_no_limit(self):
        line = TollLine(LRL, 0)
        for _ in range(150):
            line.walk(2)
        self.assertEqual(line.told(), ["walks 150", "due 0"])
        self.assertEqual(len(line.try_walks(*[1] * 100)), 100)


class Tolls(LiveCase):

    def test_due(self):
        for kind in TOLLED:
            for toll in (0, 1, 2, 10 ** 80):
                line = kind(LRL, toll=toll)
                self.assertEqual(line.due, 0)
                for place in (2, 1, 3):
                    line.walk(place)
                    self.assertEqual(line.due, toll * line.steps_made)
                    self.assertEqual(line.told()[1], f"due {toll * line.steps_made}")
                line.undo()
                self.assertEqual(line.due, toll * line.steps_made)
                line.try_walks(1, 2)
                self.assertEqual(line.due, toll * line.steps_made)
                line.undo()
                self.assertEqual(line.due, 4 * toll)
                line.undo()
                self.assertEqual(line.due, 0)

    def test_default_toll(self):
        for kind in TOLLED:
            line = kind(LRL)
            line.walk(2)
            self.assertEqual(line.due, 4)

    def test_begin_keeps_the_toll(self):
        for kind in TOLLED:
            line = kind(LRL, toll=3)
            line.walk(2)
            line.begin((("R", 5),))
            self.assertEqual(line.due, 0)
            line.walk(1)
            self.assertEqual(line.due, 15)
            self.assert_unchanged(line, InvalidPosts, line.begin, None)
            self.assertEqual(line.due, 15)

    def test_due_cannot_be_assigned(self):
        line = TollLine(LRL)
        with self.assertRaises(AttributeError):
            line.due = 3

    def test_long_lines(self):
        with time_limit(60):
            for posts in (longer(SHORT, TIMES), longer(MIRRORED, TIMES)):
                line = LimitedTollLine(posts, **BOTH)
                for at in range(1, 30):
                    line.walk(at * line_length(posts) // 31)
                due = 10 ** 80 * line.steps_made
                self.assertEqual(line.due, due)
                self.assertEqual(line.told(), ["walks 29", f"due {due}", f"left {10 ** 80 - 29}"])

    def test_steps_with_more_digits_than_python_writes(self):
        line = TollLine.read("R" + "9" * 2999)
        self.assertEqual(line.walk(1), "R")
        self.assertEqual(line.walk(5), "L")
        self.assertEqual(line.told(), ["walks 2", "due 1" + "0" * 2998 + "4"])
        line = LimitedTollLine.read("L" + "9" * 1400 + " R" + "9" * 1400 + " L1")
        line.walk(10 ** 1400 + 7)
        line.walk(3)
        told = line.told()[1]
        self.assertRegex(told, r"\Adue [1-9][0-9]*\Z")
        self.assertEqual(int(told[4:]), line.due)


class Told(LiveCase):

    def test_the_entries_and_their_order(self):
        lines = LiveLine(LRL), LimitedLine(LRL, 3), TollLine(LRL, 5), LimitedTollLine(LRL, 3, 5)
        for line in lines:
            line.walk(2)
        self.assertEqual([line.told() for line in lines], [
            ["walks 1"], ["walks 1", "left 2"], ["walks 1", "due 20"], ["walks 1", "due 20", "left 2"],
        ])

    def test_new_lists(self):
        for kind in KINDS:
            line = kind(LRL)
            told = line.told()
            told.clear()
            self.assertIsNot(line.told(), line.told())
            self.assertEqual(line.told()[0], "walks 0")

    def test_several_lines_side_by_side(self):
        one, two = LimitedTollLine(LRL, 1, 2), LimitedTollLine(LRL, 5, 3)
        one.walk(2)
        two.walk(1)
        two.walk(2)
        self.assert_unchanged(one, TooManyWalks, one.walk, 2)
        self.assertEqual(one.told(), ["walks 1", "due 8", "left 0"])
        self.assertEqual(two.told(), ["walks 2", f"due {3 * two.steps_made}", "left 3"])


if __name__ == "__main__":
    unittest.main()
