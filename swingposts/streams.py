"""Streams: walkers that start one after another from one place.

After k walkers from a place, (count_right + place * k) // length of them have left at "R".
"""

from math import gcd

from swingposts.errors import NotSettled
from swingposts.posts import check_index, check_place, check_posts, check_side, count_right, line_length
from swingposts.settling import unsettled_bounds


def nth_exit(posts, place, index):
    """Return the end at which the walker with the index leaves, if walkers start one after another from the place."""
    check_place(posts, place)
    check_index(index)
    length = line_length(posts)
    right = (count_right(posts) + place * index) % length
    return "R" if right + place >= length else "L"


def nth_leaver(posts, place, end, index):
    """Return the index of the walker from the place that is the index-th to leave at the end."""
    check_place(posts, place)
    check_side(end)
    check_index(index)
    return leaver_index(line_length(posts), count_right(posts), place, end, index)


def leaver_index(length, right, place, end, index):
    """Return what `nth_leaver` returns for posts of this length with so many right posts."""
    if end == "R":
        return (length * (index + 1) - right - 1) // place
    # Seen from behind the line, the walkers leave at "R".
    return leaver_index(length, length - 1 - right, length - place, "R", index)


def is_settled(posts):
    """Return whether no post that points left stands before one that points right."""
    check_posts(posts)
    return len(unsettled_bounds(posts)) == 0


def walkers_to_settle(posts, place):
    """Return the least number of walkers from the place after which the posts are settled."""
    check_place(posts, place)
    length = line_length(posts)
    right = count_right(posts)
    walkers = 0
    for to_right, to_left in unsettled_bounds(posts):
        # A walker that leaves at "L" swings `place` posts, and one that leaves at "R" swings `length - place`.
        by_left = leaver_index(length, right, place, "L", (to_right - 1) // place)
        by_right = leaver_index(length, right, place, "R", (to_left - 1) // (length - place))
        walkers = max(walkers, min(by_left, by_right) + 1)
    return walkers


def period(posts, place):
    """Return after how many walkers from the place settled posts are the same again, the right exits and the steps."""
    check_place(posts, place)
    if not is_settled(posts):
        raise NotSettled()
    length = line_length(posts)
    common = gcd(length, place)
    walkers = length // common
    right = place // common
    return walkers, right, right * length * length - walkers * place * place
