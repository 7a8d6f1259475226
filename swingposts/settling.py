"""Settling: what is left of posts when many of them have swung.

Walkers that leave at "L" swing the first posts that point left, and walkers that leave at "R" the last ones that point
right. Until the posts are settled, no post swings twice. From then on they are known from the number of right posts.
"""

from swingposts.posts import count_right, line_length
from swingposts.runs import join_runs, swing_first, swing_last


def unsettled_bounds(posts):
    """Return pairs (to_right, to_left), one for each run of left posts with right posts behind it.

    As long as fewer than to_right posts have swung to the right and fewer than to_left to the left, the last post of
    the run and the first right post behind it have not swung. Posts are unsettled as long as this holds for some pair.
    """
    pairs = []
    lefts = 0
    rights = count_right(posts)
    for side, count in posts:
        if side == "R":
            rights -= count
            continue
        lefts += count
        if rights > 0:
            pairs.append((lefts, rights))
    return pairs


def swing_both(posts, to_right, to_left):
    """Return the posts after walks in which posts have swung to the right and to the left so many times in all."""
    if any([to_right < lefts and to_left < rights for lefts, rights in unsettled_bounds(posts)]):
        return swing_last(swing_first(posts, "L", to_right), "R", to_left)
    right = count_right(posts) + to_right - to_left
    return join_runs([("R", right), ("L", line_length(posts) - 1 - right)])
