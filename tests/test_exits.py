"""Point [21]: what seen exits tell of posts that are not seen."""

import itertools
import random
import unittest

from swingposts.errors import InvalidExits, InvalidNumber, InvalidPlace, NotPossible
from swingposts.exits import contradiction, next_end, possible_rights
from swingposts.walks import exit_end, walked

from tests.helpers import ErrorCase, Unfriendly, let_walk, mirror_end, texts_of, time_limit
from tests.test_lengths import NO_LENGTHS
from tests.test_posts import NO_PLACES

NO_EXITS = (
    None, True, False, 0, 1, 2.5, "", "2L", b"", (), ((2, "L"),), {}, {2: "L"}, set(), {(2, "L")}, frozenset(),
    object(), range(0), iter([]), iter([(2, "L")]), (entry for entry in [(2, "L")]), len, list, Unfriendly(),
    [None], [2], [True], [""], ["2L"], ["L"], [b"2L"], [[]], [()], [{}], [{2: "L"}], [{2, "L"}], [range(2)],
    [Unfriendly()],
    [[2, "L"]], [(2, "L"), [2, "L"]], [[2, "L"], (2, "L")], [[(2, "L")]], [((2, "L"),)], [(2,)], [(2, "L", 1)],
    [(2, "L", None)], [(2, "L"), ()], [("L", 2)],
    [(0, "L")], [(4, "L")], [(0, "R")], [(4, "R")], [(-1, "L")], [(5, "L")], [(10 ** 80, "L")], [(-10 ** 80, "R")],
    [(True, "L")], [(False, "L")], [(1.0, "L")], [(2.0, "R")], [("2", "L")], [(b"2", "L")], [(None, "L")],
    [([2], "L")], [((2,), "L")], [(Unfriendly(), "L")],
    [(2, "l")], [(2, "r")], [(2, "")], [(2, "LR")], [(2, "L ")], [(2, "X")], [(2, b"L")], [(2, 0)], [(2, 1)],
    [(2, True)], [(2, None)], [(2, ["L"])], [(2, ("L",))], [(2, Unfriendly())],
    [(2, "L"), (4, "L")], [(0, "L"), (2, "L")], [(2, "L"), (2, "R"), (2, "X")], [(2, "L"), None],
    [(2, "L")] * 99 + [(4, "L")],
)

LR = [(2, "L"), (2, "R")]


def fitting(many, seen):
    """All texts of so many posts from which walkers leave as seen."""
    places = [place for place, end in seen]
    ends = [end for place, end in seen]
    return [text for text in texts_of(many) if let_walk(text, places)[1] == ends]


def first_contradiction(seen, fits):
    """The smallest k and for it the greatest j for which the seen exits from j to k - 1 do not fit, by trying all."""
    for last in range(len(seen) + 1):
        for first in reversed(range(last)):
            if not fits(seen[first:last]):
                return first, last
    return None


def lived(text, places):
    return list(zip(places, let_walk(text, places)[1]))


def line_with(length, right):
    """Settled posts of a line of this length with so many right posts."""
    runs = (("R", right), ("L", length - 1 - right))
    return tuple(run for run in runs if run[1] > 0)


class SmallLines(ErrorCase):

    def check(self, many, seen):
        length, lines = many + 1, fitting(many, seen)
        rights = sorted({text.count("R") for text in lines})
        found = possible_rights(length, seen)
        self.assertEqual(found, (rights[0], rights[-1]) if rights else None, (length, seen))
        if rights:
            self.assertEqual(rights, list(range(rights[0], rights[-1] + 1)))
        expected = first_contradiction(seen, lambda part: fitting(many, part))
        self.assertEqual(contradiction(length, seen), expected, (length, seen))
        self.assertEqual(expected is None, found is not None)
        after = {let_walk(text, [place for place, end in seen])[0] for text in lines}
        for place in range(1, length):
            if not lines:
                self.assert_error(NotPossible, next_end, length, seen, place)
                continue
            ends = {let_walk(text, [place])[1][0] for text in after}
            self.assertEqual(next_end(length, seen, place), ends.pop() if len(ends) == 1 else None, (length, seen))

    def test_all_lists_of_exits(self):
        for many, longest in ((1, 6), (2, 4), (3, 3), (4, 2)):
            exits = list(itertools.product(range(1, many + 1), "LR"))
            for size in range(longest + 1):
                for seen in itertools.product(exits, repeat=size):
                    self.check(many, list(seen))

    def test_exits_as_they_were_lived(self):
        chance = random.Random(21)
        for _ in range(120):
            many = chance.randint(1, 7)
            text = "".join(chance.choice("LR") for _ in range(many))
            places = [chance.randint(1, many) for _ in range(chance.randint(0, 9))]
            seen = lived(text, places)
            self.check(many, seen)
            least, greatest = possible_rights(many + 1, seen)
            self.assertTrue(least <= text.count("R") <= greatest)
            self.assertIsNone(contradiction(many + 1, seen))

    def test_lived_exits_with_some_ends_changed(self):
        chance = random.Random(22)
        wrong = 0
        for _ in range(150):
            many = chance.randint(1, 6)
            text = "".join(chance.choice("LR") for _ in range(many))
            seen = lived(text, [chance.randint(1, many) for _ in range(chance.randint(1, 9))])
            for _ in range(chance.randint(1, 3)):
                at = chance.randrange(len(seen))
                seen[at] = (seen[at][0], mirror_end(seen[at][1]))
            self.check(many, seen)
            wrong += contradiction(many + 1, seen) is not None
        self.assertGreater(wrong, 30)

    def test_mirrored(self):
        for many in range(1, 4):
            exits = list(itertools.product(range(1, many + 1), "LR"))
            for seen in map(list, itertools.product(exits, repeat=3)):
                length = many + 1
                behind = [(length - place, mirror_end(end)) for place, end in seen]
                rights = possible_rights(length, seen)
                expected = rights and (many - rights[1], many - rights[0])
                self.assertEqual(possible_rights(length, behind), expected)
                self.assertEqual(contradiction(length, behind), contradiction(length, seen))
                for place in range(1, length):
                    if rights:
                        end = next_end(length, behind, length - place)
                        self.assertEqual(end, mirror_end(next_end(length, seen, place)))


class Exits(ErrorCase):

    def test_nothing_seen(self):
        for length in (2, 3, 7, 10 ** 80 - 1):
            self.assertEqual(possible_rights(length, []), (0, length - 1))
            self.assertIsNone(contradiction(length, []))
            self.assertIsNone(next_end(length, [], 1))
            self.assertIsNone(next_end(length, [], length - 1))

    def test_one_number_is_left(self):
        seen = [(1, "L"), (1, "R")]
        self.assertEqual(possible_rights(4, seen), (2, 2))
        self.assertEqual([next_end(4, seen, place) for place in (1, 2, 3)], ["L", "L", "L"])
        self.assertEqual([next_end(4, seen[:1], place) for place in (1, 2, 3)], [None, None, "R"])

    def test_the_smallest_k_and_the_greatest_j(self):
        self.assertEqual(contradiction(4, [(1, "R"), (1, "R")]), (0, 2))
        self.assertEqual(contradiction(4, [(2, "L"), (1, "R"), (1, "R")]), (1, 3))
        self.assertEqual(contradiction(4, [(1, "R"), (1, "R"), (3, "L"), (3, "L")]), (0, 2))
        self.assertEqual(contradiction(2, [(1, "L"), (1, "R"), (1, "L"), (1, "L")]), (2, 4))
        self.assertEqual(contradiction(9, [(1, "L")] * 20), (0, 9))
        self.assertEqual(contradiction(9, [(8, "R")] + [(1, "L")] * 20), (1, 10))

    def test_kinds_of_values(self):
        self.assertIs(type(possible_rights(4, LR)), tuple)
        self.assertEqual([type(value) for value in possible_rights(4, LR)], [int, int])
        found = contradiction(4, [(1, "R"), (1, "R")])
        self.assertIs(type(found), tuple)
        self.assertEqual([type(value) for value in found], [int, int])
        self.assertEqual(next_end(4, LR, 2), "L")

    def test_by_name(self):
        self.assertEqual(possible_rights(seen=LR, length=4), (0, 1))
        self.assertEqual(contradiction(seen=[(1, "R"), (1, "R")], length=4), (0, 2))
        self.assertEqual(next_end(place=2, seen=LR, length=4), "L")
        self.assertEqual(next_end(4, LR, place=2), "L")

    def test_arguments_stay_as_they_are(self):
        seen = [(2, "L"), (2, "R")]
        results = possible_rights(4, seen), contradiction(4, seen), next_end(4, seen, 2)
        self.assertEqual(seen, LR)
        seen.append((1, "R"))
        self.assertEqual((possible_rights(4, LR), contradiction(4, LR), next_end(4, LR, 2)), results)

    def test_errors(self):
        calls = (possible_rights, contradiction, lambda length, seen: next_end(length, seen, 1))
        for function in calls:
            for length in NO_LENGTHS:
                self.assert_error(InvalidNumber, function, length, [])
            for seen in NO_EXITS:
                self.assert_error(InvalidExits, function, 4, seen)
        for place in NO_PLACES:
            self.assert_error(InvalidPlace, next_end, 4, LR, place)
        for place in (1, 2, 3):
            self.assert_error(NotPossible, next_end, 4, [(1, "R"), (1, "R")], place)

    def test_places_that_are_too_great_for_this_line_alone(self):
        self.assertEqual(possible_rights(5, [(4, "L")]), (0, 0))
        self.assert_error(InvalidExits, possible_rights, 4, [(4, "L")])
        self.assert_error(InvalidExits, possible_rights, 2, [(2, "L")])
        self.assertEqual(possible_rights(2, [(1, "L")]), (0, 0))

    def test_order_of_errors(self):
        for length in NO_LENGTHS:
            for function in (possible_rights, contradiction):
                self.assert_error(InvalidNumber, function, length, None)
                self.assert_error(InvalidNumber, function, seen=[(9, "X")], length=length)
            self.assert_error(InvalidNumber, next_end, length, None, 0)
            self.assert_error(InvalidNumber, next_end, length, [], 0)
        for seen in NO_EXITS:
            self.assert_error(InvalidExits, next_end, 4, seen, 0)
            self.assert_error(InvalidExits, next_end, place=None, seen=seen, length=4)
        self.assert_error(InvalidExits, next_end, 4, [(1, "R"), (1, "R"), (4, "R")], 1)
        for place in NO_PLACES:
            self.assert_error(InvalidPlace, next_end, 4, [(1, "R"), (1, "R")], place)


class Large(ErrorCase):

    def setUp(self):
        self.enterContext(time_limit(60))

    def fits(self, length, right, seen):
        ends = walked(line_with(length, right), *[place for place, end in seen])[1]
        return ends == [end for place, end in seen]

    def some_seen(self, length):
        """For some numbers of right posts, a hundred exits as they were lived."""
        for at, right in enumerate((0, length - 1, length // 3, length // 2 + 10 ** 20)):
            chance = random.Random(at)
            places = [chance.randint(1, length - 1) for _ in range(100)]
            yield right, list(zip(places, walked(line_with(length, right), *places)[1]))

    def test_a_hundred_lived_exits(self):
        for length in (10 ** 80 - 1, 10 ** 79 + 7, 2 ** 265):
            for right, seen in self.some_seen(length):
                for size in (0, 1, 2, 10, 100):
                    part = seen[:size]
                    least, greatest = possible_rights(length, part)
                    self.assertTrue(least <= right <= greatest)
                    self.assertIsNone(contradiction(length, part))
                    for number in (least, greatest, (least + greatest) // 2, least + (greatest - least) // 3):
                        self.assertTrue(self.fits(length, number, part))
                    for number in (least - 1, greatest + 1):
                        if 0 <= number < length:
                            self.assertFalse(self.fits(length, number, part))

    def test_next_end(self):
        for length in (10 ** 80 - 1, 10 ** 79 + 7):
            for right, seen in self.some_seen(length):
                for size in (1, 3, 50):
                    part = seen[:size]
                    least, greatest = possible_rights(length, part)
                    after = [walked(line_with(length, number), *[place for place, end in part])[0]
                             for number in (least, greatest)]
                    for place in (1, length - 1, length // 2, 10 ** 77, length - 10 ** 77):
                        first, last = [exit_end(posts, place) for posts in after]
                        self.assertEqual(next_end(length, part, place), first if first == last else None)

    def test_a_hundred_exits_with_some_changed(self):
        length = 10 ** 80 - 1
        for right, seen in self.some_seen(length):
            for changed in ((0,), (99,), (50,), (3, 4, 90)):
                other = [(place, mirror_end(end) if at in changed else end) for at, (place, end) in enumerate(seen)]
                expected = first_contradiction(other, lambda part: possible_rights(length, part) is not None)
                self.assertEqual(contradiction(length, other), expected)
                self.assertEqual(possible_rights(length, other) is None, expected is not None)
                if expected is not None:
                    self.assert_error(NotPossible, next_end, length, other, 1)

    def test_a_contradiction_of_many_walkers(self):
        length = 10 ** 80 - 1
        place = (length - 1) // 99
        self.assertIsNone(contradiction(length, [(place, "L")] * 99))
        self.assertEqual(contradiction(length, [(place + 1, "L")] * 99), (0, 99))
        self.assertEqual(contradiction(length, [(1, "R"), *[(place + 1, "L")] * 99]), (1, 100))


if __name__ == "__main__":
    unittest.main()
