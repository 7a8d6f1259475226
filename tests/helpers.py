"""What the tests share: a walk made step by step, all small lines, and how errors and time are watched."""

import contextlib
import itertools
import signal
import unittest


def to_posts(text):
    """The posts that a text of single sides such as "LRL" stands for."""
    return tuple((side, len(list(group))) for side, group in itertools.groupby(text))


def to_text(posts):
    return "".join(side * count for side, count in posts)


def small_lines(longest):
    """All texts of single sides with up to `longest` posts."""
    for many in range(1, longest + 1):
        for sides in itertools.product("LR", repeat=many):
            yield "".join(sides)


def walk(text, place):
    """The places of a walk, one by one, and the text after it, exactly as point [5] tells it."""
    sides = list(text)
    places = [place]
    while 1 <= place <= len(sides):
        side = sides[place - 1]
        sides[place - 1] = "R" if side == "L" else "L"
        place += 1 if side == "R" else -1
        places.append(place)
    return places, "".join(sides)


def walk_end(text, place):
    return "L" if walk(text, place)[0][-1] == 0 else "R"


@contextlib.contextmanager
def time_limit(seconds):
    """Stops what takes too long, so that a slow program fails instead of running on."""
    def stop(number, frame):
        raise AssertionError(f"took more than {seconds} seconds")

    before = signal.signal(signal.SIGALRM, stop)
    signal.setitimer(signal.ITIMER_REAL, seconds)
    try:
        yield
    finally:
        signal.setitimer(signal.ITIMER_REAL, 0)
        signal.signal(signal.SIGALRM, before)


class Unfriendly:
    """A value that answers no question about itself."""

    def refuse(self, *rest):
        raise AssertionError("a value of another kind was asked something")

    __eq__ = __ne__ = __lt__ = __le__ = __gt__ = __ge__ = refuse
    __hash__ = __len__ = __iter__ = __bool__ = __int__ = __index__ = __getitem__ = refuse


class ErrorCase(unittest.TestCase):

    def assert_error(self, kind, function, *args, **kwargs):
        """The call raises an error of exactly this class, not of one below or above it."""
        with self.assertRaises(Exception) as caught:
            function(*args, **kwargs)
        self.assertIs(type(caught.exception), kind, (function.__name__, args, kwargs))
