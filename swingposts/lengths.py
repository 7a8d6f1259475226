"""Lengths of walks: which numbers of steps occur, and with which posts."""

from swingposts.errors import InvalidNumber
from swingposts.posts import check_index, check_place_on, is_integer
from swingposts.runs import join_runs, mirrored


def check_length(length):
    """Raise InvalidNumber for anything but the length of a line."""
    if not is_integer(length) or length < 2:
        raise InvalidNumber()


def check_start(length, right, place):
    """Raise the error for the first argument that is not a length, a number of right posts or a place in it."""
    check_length(length)
    if not is_integer(right) or right < 0 or right >= length:
        raise InvalidNumber()
    check_place_on(length, place)


def step_range(length, right, place):
    """Return the end at which a walker leaves, and its least and greatest number of steps."""
    check_start(length, right, place)
    if right + place < length:
        return "L", place, place + 2 * place * right
    way = length - place
    return "R", way, way + 2 * way * (length - 1 - right)


def posts_with_steps(length, right, place, steps):
    """Return posts with so many right posts for which a walker makes so many steps, or None if there are none."""
    end, least, greatest = step_range(length, right, place)
    check_index(steps)
    if steps < least or steps > greatest or (steps - least) % 2 == 1:
        return None
    detours = (steps - least) // 2
    if end == "L":
        return posts_with_detours(length, right, place, detours)
    return mirrored(posts_with_detours(length, length - 1 - right, length - place, detours))


def posts_with_detours(length, right, place, detours):
    """Return posts for which a walker from the place leaves at "L" and makes so many steps to the right.

    These are as many as the right posts before the first left post, those before the second one and so on, added up for
    the `place` left posts that swing.
    """
    each, longer = divmod(detours, place)
    one = 1 if longer > 0 else 0
    return join_runs([
        ("R", each), ("L", place - longer), ("R", one), ("L", longer),
        ("R", right - each - one), ("L", length - 1 - right - place),
    ])
