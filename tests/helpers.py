"""What the tests share: a walk made step by step, all small lines, and how errors and time are watched."""

import contextlib
import itertools
import signal
import unittest

from swingposts.errors import PostError
from swingposts.posts import count_right, line_length

# Two lines with 20 runs; longer by TIMES, their counts have 33 digits.
TIMES = 3 * 10 ** 32
COUNTS = (1, 3, 2, 1, 1, 2, 3, 1, 2, 2, 1, 3, 1, 1, 2, 1, 3, 2, 1, 2)
SHORT = tuple(("LR"[at & 1], count) for at, count in enumerate(COUNTS))
MIRRORED = tuple(("RL"[at & 1], count) for at, count in enumerate(COUNTS))


def to_posts(text):
    """The posts that a text of single sides such as "LRL" stands for."""
    return tuple((side, len(list(group))) for side, group in itertools.groupby(text))


def to_text(posts):
    return "".join(side * count for side, count in posts)


def small_lines(longest):
    """All texts of single sides with up to `longest` posts."""
    for many in range(1, longest + 1):
        for sides in itertools.product("LR", repeat=many):
            yield "".join(sides)


def walk(text, place):
    """The places of a walk, one by one, and the text after it, exactly as point [5] tells it."""
    sides = list(text)
    places = [place]
    while 1 <= place <= len(sides):
        side = sides[place - 1]
        sides[place - 1] = "R" if side == "L" else "L"
        place += 1 if side == "R" else -1
        places.append(place)
    return places, "".join(sides)


def walk_end(text, place):
    return "L" if walk(text, place)[0][-1] == 0 else "R"


def all_walks(longest):
    """All small lines from all places."""
    for text in small_lines(longest):
        for place in range(1, len(text) + 1):
            yield text, place


def texts_of(many):
    """All texts of single sides with so many posts, in ascending order."""
    return ["".join(sides) for sides in itertools.product("LR", repeat=many)]


def mirror_text(text):
    """The text as it is seen from behind the line."""
    return "".join("R" if side == "L" else "L" for side in reversed(text))


def mirror_posts(posts):
    """The posts as they are seen from behind the line."""
    return tuple(("R" if side == "L" else "L", count) for side, count in reversed(posts))


def mirror_end(end):
    return {"L": "R", "R": "L", None: None}[end]


def search(text):
    """All texts that walkers can make of the text, each with the smallest number of walkers that it needs."""
    walkers = {text: 0}
    waiting = [text]
    for now in waiting:
        for place in range(1, len(now) + 1):
            after = walk(now, place)[1]
            if after not in walkers:
                walkers[after] = walkers[now] + 1
                waiting.append(after)
    return walkers


def swung(text, other):
    """The numbers of posts that have swung to the right and to the left."""
    sides = list(zip(text, other))
    return sides.count(("L", "R")), sides.count(("R", "L"))


def text_is_settled(text):
    return "LR" not in text


def let_walk(text, places):
    """The text after walkers from these places, one after another, the ends at which they left and all their steps."""
    ends, steps = [], 0
    for place in places:
        path, text = walk(text, place)
        ends.append("L" if path[-1] == 0 else "R")
        steps += len(path) - 1
    return text, ends, steps


def longer(posts, times):
    """The posts whose runs are so many times as long."""
    return tuple((side, count * times) for side, count in posts)


def at_times(values, times):
    """The value at `times` of the polynomial of degree 2 with these values at 1, 2 and 3."""
    first, second, third = values
    past = times - 1
    return first + past * (second - first) + past * (past - 1) // 2 * (third - 2 * second + first)


def scaled_walks(posts):
    """Places by k for which the walk in the line with runs k times as long is the short line's, stretched."""
    length, right = line_length(posts), count_right(posts)
    for place in range(1, length):
        if right + place < length:
            yield lambda times, place=place: place * times
        else:
            yield lambda times, place=place: (place - 1) * times + 1


@contextlib.contextmanager
def time_limit(seconds):
    """Stops what takes too long, so that a slow program fails instead of running on."""
    def stop(number, frame):
        raise AssertionError(f"took more than {seconds} seconds")

    before = signal.signal(signal.SIGALRM, stop)
    signal.setitimer(signal.ITIMER_REAL, seconds)
    try:
        yield
    finally:
        signal.setitimer(signal.ITIMER_REAL, 0)
        signal.signal(signal.SIGALRM, before)


class Unfriendly:
    """A value that answers no question about itself."""

    def refuse(self, *rest):
        raise AssertionError("a value of another kind was asked something")

    __eq__ = __ne__ = __lt__ = __le__ = __gt__ = __ge__ = refuse
    __hash__ = __len__ = __iter__ = __bool__ = __int__ = __index__ = __getitem__ = refuse


class ErrorCase(unittest.TestCase):

    def assert_error(self, kind, function, *args, **kwargs):
        """The call raises an error of exactly this class, not of one below or above it."""
        with self.assertRaises(Exception) as caught:
            function(*args, **kwargs)
        self.assertIs(type(caught.exception), kind, (function.__name__, args, kwargs))
        self.assertEqual(kind.__mro__[1:3], (PostError, ValueError))
