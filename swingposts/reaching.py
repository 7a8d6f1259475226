"""Reaching: which posts walkers can make of others, and how.

Walkers turn posts into others exactly if the first posts that pointed left have swung to the right and then the last
posts that pointed right have swung to the left. One walker is enough for each of the two.
"""

from swingposts.errors import InvalidNumber
from swingposts.posts import check_both, check_index, count_right, line_length
from swingposts.runs import side_by_side, swing_first, swing_last


def swung_posts(posts, goal):
    """Return how many posts differ that point right in the goal, and how many that point left there."""
    changed = [(count, goal_side) for first, count, side, goal_side in side_by_side(posts, goal) if side != goal_side]
    to_right = sum([count for count, goal_side in changed if goal_side == "R"])
    to_left = sum([count for count, goal_side in changed if goal_side == "L"])
    return to_right, to_left


def can_become(posts, goal):
    """Return whether some walkers turn the posts into the goal."""
    check_both(posts, goal)
    to_right, to_left = swung_posts(posts, goal)
    return swing_last(swing_first(posts, "L", to_right), "R", to_left) == goal


def walkers_to(posts, goal):
    """Return the fewest places of walkers that turn the posts into the goal, or None if there are none."""
    if not can_become(posts, goal):
        return None
    to_right, to_left = swung_posts(posts, goal)
    places = []
    if to_right > 0:
        places.append(to_right)
    if to_left > 0:
        places.append(line_length(posts) - to_left)
    return places


def why_not_become(posts, goal):
    """Return two places with a left post before a right one in the goal that walkers cannot make, or None.

    They are the smallest ones of which one at least differs from the posts.
    """
    check_both(posts, goal)
    next_right = next_changed_right = found = None
    for first, count, side, goal_side in side_by_side(posts, goal)[::-1]:
        if goal_side == "R":
            next_right = first
            if side == "L":
                next_changed_right = first
            continue
        behind = next_right if side == "R" else next_changed_right
        if behind is not None:
            found = (first, behind)
    return found


def reachable_blocks(posts):
    """Return all posts that the posts can become, as blocks (to_right, many, most).

    Such a block is all posts in which to_right first left posts have swung to the right, or one more, and so on, `many`
    numbers in all, and with each of them any number from 0 to `most` of last right posts to the left. These are the
    right posts behind the last post that has swung to the right: if more swung, it would swing back.
    """
    rights = count_right(posts)
    blocks = [(0, 1, rights)]
    to_right = 1
    for side, count in posts:
        if side == "R":
            rights -= count
        else:
            blocks.append((to_right, count, rights))
            to_right += count
    return blocks


def count_reachable(posts):
    """Return the number of posts that the posts can become."""
    return sum([many * (most + 1) for to_right, many, most in reachable_blocks(posts)])


def nth_reachable(posts, index):
    """Return the posts with the index among those that the posts can become."""
    blocks = reachable_blocks(posts)
    check_index(index)
    rest = index
    for first, many, most in blocks:
        size = many * (most + 1)
        if rest < size:
            more, to_left = divmod(rest, most + 1)
            return swing_last(swing_first(posts, "L", first + more), "R", to_left)
        rest -= size
    raise InvalidNumber()


def reachable(posts):
    """Yield all posts that the posts can become, in the order of `nth_reachable`."""
    for first, many, most in reachable_blocks(posts):
        for more in range(many):
            swung = swing_first(posts, "L", first + more)
            for to_left in range(most + 1):
                yield swing_last(swung, "R", to_left)
