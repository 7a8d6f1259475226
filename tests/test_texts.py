"""Point [29]: texts of posts, crowds and exits."""

import itertools
import random
import re
import unittest

from swingposts.errors import InvalidCrowd, InvalidExits, InvalidPosts, InvalidText
from swingposts.posts import is_posts
from swingposts.texts import format_crowd, format_exits, format_posts, parse_crowd, parse_exits, parse_posts

from tests.helpers import MIRRORED, SHORT, TIMES, ErrorCase, Unfriendly, longer, small_lines, time_limit, to_posts
from tests.test_crowds import NO_CROWDS
from tests.test_exits import NO_EXITS
from tests.test_posts import LRL, NO_POSTS

PARSERS = (parse_posts, parse_crowd, parse_exits)

NO_TEXTS = (
    None, True, False, 0, 1, 2.5, b"", b"L1", b"2x1", b"2L", [], ["L1"], (), ("L1",), LRL, [(2, 1)], [(2, "L")], {},
    {"L1"}, iter("L1"), object(), len, str, Unfriendly(),
)
# The signs that stand for digits elsewhere: Arabic, Devanagari, raised, of full width, in a circle.
OTHER_DIGITS = ("\u0663", "\u0967", "\u00b2", "\uff11", "\u2460")
SIGNS = [chr(code) for code in range(256)] + list(OTHER_DIGITS) + ["\u2212", "\u00a0", "\u2003", "\u200b"]

NO_POSTS_TEXTS = (
    "", " ", "L", "R", "1", "1L", "L0", "R0", "L00", "L01", "R007", "L+1", "L-1", "L1.0", "L1e3", "L1_0", "L0x1", "l1",
    "r1", "X1", "LR1", "LL1", "L1R1", "L 1", "L1 R", "L1 1", "L1 R0", "L1 R01", "L1 R-1", "L1 L1", "R3 R4",
    "L1 R1 R1", "L1 R1 L2 L3", "L1  R1", " L1", "L1 ", "L1 R1 ", "L1\tR1", "L1\nR1", "L1\n", "\nL1", "L1,R1", "L1, R1",
    "L1x1", "2x1", "2L", "L1 2L", "None", "LRL", "(('L', 1),)", "L" + OTHER_DIGITS[0], "L1" + OTHER_DIGITS[1],
    "L" + OTHER_DIGITS[2], "L" + OTHER_DIGITS[3], "\u216c1", "L1\u00a0R1", "L1\r", "L1 \x00",
)
NO_CROWD_TEXTS = (
    " ", "x", "2", "2x", "x2", "0x1", "00x1", "02x1", "2x01", "2x00", "-2x1", "2x-1", "+2x1", "2x+1", "2X1", "2*1",
    "2 x1", "2x 1", "2 1", "2x1x1", "2xx1", "x2x1", "2x1x", "2x1,1x1", "2x1  1x1", " 2x1", "2x1 ", "2x1 1", "2x1 0x1",
    "2x1 1x01", "2x1\t1x1", "2x1\n", "\n2x1", "2.0x1", "2x1.0", "1_0x1", "0x10", "0x0", "2x1_0", "1e3x1", "2L", "L1",
    "ax1", "2xa", "None", OTHER_DIGITS[0] + "x1", "2x" + OTHER_DIGITS[1], "2x" + OTHER_DIGITS[2], "2\u00d71",
    "2x1\u00a01x1", "[(2, 1)]",
)
NO_EXITS_TEXTS = (
    " ", "L", "R", "2", "0L", "0R", "00L", "02L", "-2L", "+2L", "2l", "2r", "2X", "2LR", "2LL", "L2", "2 L", "2L3R",
    "2L  3R", " 2L", "2L ", "2L 3", "2L R", "2L 0R", "2L 03R", "2L\t3R", "2L\n", "\n2L", "2.0L", "1_0L", "1e3L", "2x1",
    "0x1L", "aL", "2L,3R", "2L, 3R", "None", OTHER_DIGITS[0] + "L", "1" + OTHER_DIGITS[1] + "R", "2\u216c",
    "2L\u00a03R", "[(2, 'L')]",
)


def one_sign_changed(text):
    """All texts that the text becomes by one sign left out, put in, or changed."""
    for at in range(len(text) + 1):
        if at < len(text):
            yield text[:at] + text[at + 1:]
            for sign in SIGNS:
                yield text[:at] + sign + text[at + 1:]
        for sign in SIGNS:
            yield text[:at] + sign + text[at:]


def written_posts(posts):
    return " ".join(f"{side}{count}" for side, count in posts)


def written_crowd(crowd):
    return " ".join(f"{place}x{count}" for place, count in crowd)


def written_exits(seen):
    return " ".join(f"{place}{end}" for place, end in seen)


class BothWays(ErrorCase):

    def check_posts(self, posts):
        self.assertEqual(format_posts(posts), written_posts(posts))
        self.assertEqual(parse_posts(written_posts(posts)), posts)

    def check_crowd(self, crowd):
        self.assertEqual(format_crowd(crowd), written_crowd(crowd))
        self.assertEqual(parse_crowd(written_crowd(crowd)), crowd)

    def check_exits(self, seen):
        self.assertEqual(format_exits(seen), written_exits(seen))
        self.assertEqual(parse_exits(written_exits(seen)), seen)

    def test_small_posts(self):
        for text in small_lines(9):
            self.check_posts(to_posts(text))

    def test_long_posts(self):
        for posts in (SHORT, MIRRORED, longer(SHORT, TIMES), longer(MIRRORED, 10 ** 32), (("R", 10 ** 33 - 1),)):
            self.check_posts(posts)

    def test_small_crowds(self):
        blocks = list(itertools.product((1, 2, 10, 99), (0, 1, 10, 205)))
        for many in range(4):
            for crowd in itertools.product(blocks, repeat=many):
                self.check_crowd(list(crowd))

    def test_small_exits(self):
        entries = list(itertools.product((1, 2, 9, 10, 300), "LR"))
        for many in range(4):
            for seen in itertools.product(entries, repeat=many):
                self.check_exits(list(seen))

    def test_lists_of_a_hundred(self):
        chance = random.Random(29)
        for digits in (1, 10, 34, 80):
            places = [chance.randint(1, 10 ** digits - 1) for _ in range(100)]
            counts = [chance.randint(0, 10 ** digits - 1) for _ in range(100)]
            self.check_crowd(list(zip(places, counts)))
            self.check_exits([(place, chance.choice("LR")) for place in places])

    def test_numbers_with_zeros_inside(self):
        numbers = [10 ** 63, 10 ** 64, 10 ** 64 - 1, 10 ** 64 + 1, 10 ** 79 + 5, 7 * 10 ** 79, 10 ** 128, 10 ** 500 + 3]
        for number in numbers:
            self.check_posts((("L", number),))
            self.check_crowd([(number, number), (1, 0), (number + 1, number - 1)])
            self.check_exits([(number, "L"), (number - 1, "R")])

    def test_texts_of_3000_signs(self):
        digits = "1234567890" * 300
        for text in ("R" + digits[:2999], "L" + "9" * 1499 + " R" + "1" * 1498):
            posts = parse_posts(text)
            self.assertIs(is_posts(posts), True)
            self.assertEqual(format_posts(posts), text)
        self.assertEqual(parse_posts("R" + digits[:2999])[0][1] % 10 ** 9, int(digits[2990:2999]))
        for text in (digits[:1500] + "x" + digits[:1499], " ".join(["7x0"] * 750)):
            self.assertEqual(format_crowd(parse_crowd(text)), text)
        for text in (digits[:2999] + "L", " ".join(["7R"] * 1000)):
            self.assertEqual(format_exits(parse_exits(text)), text)

    def test_numbers_of_any_length(self):
        # Python's own numbers are written and read up to 4300 digits only.
        digits = "12345678900000000000000000000000000" * 200
        self.assertEqual(format_posts(parse_posts("L" + digits)), "L" + digits)


class Texts(ErrorCase):

    def test_empty(self):
        self.assertEqual([format_crowd([]), format_exits([])], ["", ""])
        self.assertEqual([parse_crowd(""), parse_exits("")], [[], []])
        self.assert_error(InvalidText, parse_posts, "")

    def test_count_0(self):
        self.assertEqual(parse_crowd("2x0"), [(2, 0)])
        self.assertEqual(format_crowd([(2, 0)]), "2x0")
        self.assert_error(InvalidText, parse_posts, "L0")

    def test_places_beyond_any_line(self):
        self.assertEqual(format_crowd([(10 ** 80, 1)]), "1" + "0" * 80 + "x1")
        self.assertEqual(format_exits([(10 ** 80, "R")]), "1" + "0" * 80 + "R")
        self.assertEqual(parse_crowd("9" * 80 + "x1"), [(10 ** 80 - 1, 1)])
        self.assertEqual(parse_exits("9" * 80 + "L"), [(10 ** 80 - 1, "L")])

    def test_kinds_of_values(self):
        posts, crowd, seen = parse_posts("L1 R2"), parse_crowd("2x1"), parse_exits("2L")
        self.assertEqual([type(value) for value in (posts, *posts, *posts[0])], [tuple, tuple, tuple, str, int])
        self.assertEqual([type(value) for value in (crowd, *crowd, *crowd[0])], [list, tuple, int, int])
        self.assertEqual([type(value) for value in (seen, *seen, *seen[0])], [list, tuple, int, str])
        for text in (format_posts(LRL), format_crowd([(1, 1)]), format_exits([(1, "L")])):
            self.assertIs(type(text), str)

    def test_new_lists(self):
        for parse, text in ((parse_crowd, "2x1 3x0"), (parse_exits, "2L 3R"), (parse_crowd, ""), (parse_exits, "")):
            first, second = parse(text), parse(text)
            self.assertIsNot(first, second)
            first.append("more")
            self.assertEqual(parse(text), second)

    def test_arguments_stay_as_they_are(self):
        crowd, seen = [(2, 1), (3, 0)], [(2, "L"), (3, "R")]
        self.assertEqual((format_crowd(crowd), format_exits(seen)), ("2x1 3x0", "2L 3R"))
        self.assertEqual((crowd, seen), ([(2, 1), (3, 0)], [(2, "L"), (3, "R")]))

    def test_by_name(self):
        self.assertEqual(format_posts(posts=LRL), "L1 R1 L1")
        self.assertEqual(format_crowd(crowd=[(2, 10)]), "2x10")
        self.assertEqual(format_exits(seen=[(2, "L")]), "2L")
        self.assertEqual(parse_posts(text="L1 R1 L1"), LRL)
        self.assertEqual(parse_crowd(text="2x10"), [(2, 10)])
        self.assertEqual(parse_exits(text="2L"), [(2, "L")])

    def test_values_that_are_no_text(self):
        for parse in PARSERS:
            for value in NO_TEXTS:
                self.assert_error(InvalidText, parse, value)

    def test_texts_that_are_wrong(self):
        for parse, texts in ((parse_posts, NO_POSTS_TEXTS), (parse_crowd, NO_CROWD_TEXTS), (parse_exits, NO_EXITS_TEXTS)):
            for text in texts:
                self.assert_error(InvalidText, parse, text)

    def test_long_texts_that_are_wrong(self):
        with time_limit(30):
            for text in ("L0" + "1" * 6000, "L" + "1" * 6000 + "x", "L1 " * 2000, "x" * 6000, "L1 R1 " * 600 + "L0"):
                for parse in PARSERS:
                    self.assert_error(InvalidText, parse, text)

    def test_values_that_are_no_posts_crowd_or_exits(self):
        for value in NO_POSTS:
            self.assert_error(InvalidPosts, format_posts, value)
        # Only a line tells that a place is too great for it.
        for value in NO_CROWDS:
            if not fits_some_line(value):
                self.assert_error(InvalidCrowd, format_crowd, value)
        for value in NO_EXITS:
            if not fits_some_line(value):
                self.assert_error(InvalidExits, format_exits, value)

    def test_values_that_some_line_fits(self):
        self.assertEqual(sum(map(fits_some_line, NO_CROWDS)), 6)
        self.assertEqual(sum(map(fits_some_line, NO_EXITS)), 6)


class OneSignWrong(ErrorCase):

    def check_all(self, parse, form, is_right, text):
        """Each text that differs by one sign is read as what is written so, or refused."""
        for other in one_sign_changed(text):
            if is_right(other):
                self.assertEqual(form(parse(other)), other)
            else:
                self.assert_error(InvalidText, parse, other)

    def test_posts(self):
        def is_right(text):
            sides = [word[0] for word in text.split(" ") if word]
            form = re.fullmatch("[LR][1-9][0-9]*( [LR][1-9][0-9]*)*", text)
            return form is not None and "LL" not in "".join(sides) and "RR" not in "".join(sides)

        for text in ("L1 R20", "R105", "L1 R1 L1"):
            self.check_all(parse_posts, written_posts, is_right, text)

    def test_crowds(self):
        entry = "[1-9][0-9]*x(0|[1-9][0-9]*)"
        for text in ("2x10 1x1", "7x0", "12x345", "3"):
            self.check_all(parse_crowd, written_crowd, lambda other: re.fullmatch(f"({entry}( {entry})*)?", other), text)

    def test_exits(self):
        entry = "[1-9][0-9]*[LR]"
        for text in ("2L 10R", "305L", "1R 1L 1R", "3"):
            self.check_all(parse_exits, written_exits, lambda other: re.fullmatch(f"({entry}( {entry})*)?", other), text)


def fits_some_line(value):
    """Whether the list would be a crowd or a list of exits if the line were long enough."""
    if not isinstance(value, list) or not value:
        return False
    for entry in value:
        if type(entry) is not tuple or len(entry) != 2 or type(entry[0]) is not int or entry[0] < 1:
            return False
        if type(entry[1]) is int and entry[1] < 0 or type(entry[1]) not in (int, str):
            return False
        if type(entry[1]) is str and entry[1] not in ("L", "R"):
            return False
    return len({type(entry[1]) for entry in value}) == 1 and any(entry[0] >= 4 for entry in value)


if __name__ == "__main__":
    unittest.main()
