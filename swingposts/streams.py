"""Streams: walkers that start one after another from one place.

After k walkers from a place, (count_right + place * k) // length of them have left at "R".
"""

from math import gcd

from swingposts.errors import NotSettled
from swingposts.posts import check_index, check_place, check_posts, check_side, count_right, line_length
from swingposts.settling import unsettled_bounds


def nth_exit(posts, place, index):
    """Return the end at which the walker with the index leaves, if walkers start one after another from the place."""
    check_place(posts, place)
    check_index(index)
    length = line_length(posts)
    right = (count_right(posts) + place * index) % length
    return "R" if right + place >= length else "L"


def nth_leaver(posts, place, end, index):
    """Return the index of the walker from the place that is the index-th to leave at the end."""
    check_place(posts, place)
    check_side(end)
    check_index(index)
    length = line_length(posts)
    gain = place
    level = count_right(posts)
    if end == "L":
        # Seen from behind the line, the walkers leave at "R".
        gain = length - place
        level = length - 1 - level
    return (length * (index + 1) - level - 1) // gain


def is_settled(posts):
    """Return whether no post that points left stands before one that points right."""
    check_posts(posts)
    return len(unsettled_bounds(posts)) == 0


def walkers_to_swing(posts, place, end, many):
    """Return the least number of walkers from the place of whom those that leave at the end swing so many posts."""
    each = place if end == "L" else line_length(posts) - place
    return nth_leaver(posts, place, end, (many - 1) // each) + 1


def walkers_to_settle(posts, place):
    """Return the least number of walkers from the place after which the posts are settled."""
    check_place(posts, place)
    walkers = 0
    for to_right, to_left in unsettled_bounds(posts):
        by_left = walkers_to_swing(posts, place, "L", to_right)
        by_right = walkers_to_swing(posts, place, "R", to_left)
        walkers = max(walkers, min(by_left, by_right))
    return walkers


def period(posts, place):
    """Return after how many walkers from the place settled posts are the same again, the right exits and the steps."""
    check_place(posts, place)
    if not is_settled(posts):
        raise NotSettled()
    length = line_length(posts)
    common = gcd(length, place)
    walkers = length // common
    right = place // common
    return walkers, right, right * length * length - walkers * place * place
