"""Posts before a walk: which posts one walker turns into the given ones.

The posts that a walker has swung stand together with others of the same kind: if it has left at "L", all of them are
among the right posts before all left ones, and if it has left at "R", among the left posts behind all right ones. They
may be any of those posts, so each choice of so many of them is another line before the walk.
"""

from math import comb

from swingposts.errors import InvalidNumber, TooLarge
from swingposts.posts import check_index, check_place, line_length
from swingposts.runs import join_runs

LIMIT = 200


def check_size(posts):
    """Raise InvalidPosts for anything but posts, then TooLarge for more of them than the limit."""
    if line_length(posts) - 1 > LIMIT:
        raise TooLarge(LIMIT)


def leading_right(posts):
    """Return the number of right posts before all left ones."""
    side, count = posts[0]
    return count if side == "R" else 0


def trailing_left(posts):
    """Return the number of left posts behind all right ones."""
    side, count = posts[-1]
    return count if side == "L" else 0


def can_be_before(posts, place):
    """Return whether one walker from the place turns some posts into the given ones."""
    check_place(posts, place)
    return place <= leading_right(posts) or line_length(posts) - place <= trailing_left(posts)


def choices(posts, place):
    """Return how many posts one walker from the place turns into the given ones, however many posts there are."""
    # One of the two numbers is 0, for the walker cannot leave at both ends.
    return comb(leading_right(posts), place) + comb(trailing_left(posts), line_length(posts) - place)


def count_before(posts, place):
    """Return how many posts one walker from the place turns into the given ones."""
    check_place(posts, place)
    check_size(posts)
    return choices(posts, place)


def count_all_before(posts):
    """Return the sum of the numbers of `count_before` over all places."""
    check_size(posts)
    # The places choose each number of posts from 1 on, so each choice of some posts at an end counts once.
    return (1 << leading_right(posts)) + (1 << trailing_left(posts)) - 2


def nth_order(lefts, rights, index):
    """Return as runs of single posts the order with the index of so many left and right posts, "L" before "R"."""
    runs = []
    rest = index
    left = lefts
    for behind in reversed(range(lefts + rights)):
        with_left = comb(behind, left - 1) if left > 0 else 0
        if rest < with_left:
            runs.append(("L", 1))
            left -= 1
        else:
            runs.append(("R", 1))
            rest -= with_left
    return runs


def nth_before(posts, place, index):
    """Return the posts with the index among those that one walker from the place turns into the given ones."""
    check_place(posts, place)
    check_index(index)
    check_size(posts)
    if index >= choices(posts, place):
        raise InvalidNumber()
    leading = leading_right(posts)
    if place <= leading:
        return join_runs([*nth_order(place, leading - place, index), *posts[1:]])
    rights = line_length(posts) - place
    return join_runs([*posts[:-1], *nth_order(trailing_left(posts) - rights, rights, index)])
