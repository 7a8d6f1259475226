"""Pairs of lines: whether walkers can tell them apart, and what makes them equal."""

from swingposts.crowds import after_crowd
from swingposts.posts import check_both, count_right
from swingposts.runs import side_by_side


def same_exits(posts, other):
    """Return whether all crowds leave at the same ends, walker by walker, from both lines."""
    check_both(posts, other)
    # Where the numbers of right posts differ, one walker from some place is enough to see it.
    return count_right(posts) == count_right(other)


def equal_after(posts, other, crowd):
    """Return whether both lines are equal after the crowd."""
    check_both(posts, other)
    return after_crowd(posts, crowd)[0] == after_crowd(other, crowd)[0]


def place_to_merge(posts, other):
    """Return the smallest place from which one walker makes both lines equal, or None if there is none."""
    if not same_exits(posts, other):
        return None
    # Walkers from small places leave at "L" and swing as many first left posts as their place. They have to swing all
    # those up to the last place at which the lines differ; equal lines stay equal after any walker.
    lefts = 0
    least = 1
    for first, count, side, other_side in side_by_side(posts, other):
        if side == "L":
            lefts += count
        if side != other_side:
            least = lefts
    return least
