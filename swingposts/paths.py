"""Paths: to which places a walker comes, after how many steps, and how often.

A walker that comes back to a post finds that it points the way the walker goes. So the walker turns only at posts that
are new to it: at those that point left to the right of its start, and at those that point right to the left of it, the
nearest first. The two kinds take turns, until one of them is used up and the walker leaves the line.
"""

from math import isqrt

from swingposts.errors import InvalidNumber
from swingposts.posts import check_index, check_place, line_length, place_of, side_at
from swingposts.runs import mirrored
from swingposts.walks import count_steps, exit_end


def count_up_to(posts, side, place):
    """Return the number of posts with the side at the places up to this one."""
    total = 0
    before = 0
    for run_side, count in posts:
        if run_side == side:
            total += max(0, min(count, place - before))
        before += count
    return total


def right_turn_runs(posts, place):
    """Return the runs (first place, count) of posts right of the place that point left."""
    found = []
    last = 0
    for side, count in posts:
        first = max(last, place) + 1
        last += count
        if side == "L" and first <= last:
            found.append((first, last - first + 1))
    return found


def left_turn_runs(posts, place):
    """Return the runs (greatest place, count) of posts left of the place that point right, the nearest run first."""
    length = line_length(posts)
    return [(length - first, count) for first, count in right_turn_runs(mirrored(posts), length - place)]


def round_blocks(posts, place):
    """Return how a walker turns that goes right from the place, as blocks (right, left, many).

    Such a block is so many rounds: to the turn at `right` and back to the one at `left`, then to `right` + 1 and back
    to `left` - 1, and so on. The ends of the line stand there like turns, behind all others; the walk is over at the
    first of them.
    """
    rights = right_turn_runs(posts, place) + [(line_length(posts), 1)]
    lefts = left_turn_runs(posts, place) + [(0, 1)]
    blocks = []
    while rights and lefts:
        right, right_count = rights.pop(0)
        left, left_count = lefts.pop(0)
        many = min(right_count, left_count)
        blocks.append((right, left, many))
        if right_count > many:
            rights.insert(0, (right + many, right_count - many))
        if left_count > many:
            lefts.insert(0, (left - many, left_count - many))
    return blocks


def turning_places(posts, place):
    """Yield the places at which a walker from the place turns, and then the end of the line at which it leaves."""
    length = line_length(posts)
    if side_at(posts, place) == "L":
        other_posts = mirrored(posts)
        other_place = length - place
        for turn in turning_places(other_posts, other_place):
            yield length - turn
        return
    for right, left, many in round_blocks(posts, place):
        for turned in range(many):
            yield right + turned
            if right < length:
                yield left - turned


def path(posts, place):
    """Yield the places of a walker from the place one by one, from its start to the end of the line."""
    check_place(posts, place)
    now = place
    for turn in turning_places(posts, place):
        step = 1 if now < turn else -1
        for passed in range(now, turn, step):
            yield passed
        now = turn
    yield now


def place_after(posts, place, steps):
    """Return the place of a walker from the place after so many steps."""
    check_place(posts, place)
    check_index(steps)
    if steps > count_steps(posts, place):
        raise InvalidNumber()
    if side_at(posts, place) == "R":
        return place_going_right(posts, place, steps)
    length = line_length(posts)
    return length - place_going_right(mirrored(posts), length - place, steps)


def place_going_right(posts, place, steps):
    """Return the place after so many steps of a walker that goes right from the place."""
    now = place
    rest = steps
    for right, left, many in round_blocks(posts, place):
        # Counted from the post beside the first left turn, all rounds of the block grow alike.
        rest += now - left - 1
        turned = min(many, whole_rounds(right - left, rest))
        now = left + 1 - turned
        rest -= steps_of_rounds(right - left, turned)
        if turned < many:
            turn = right + turned
            return turn - abs(turn - now - rest)
    return now


def steps_of_rounds(width, many):
    """Return the steps of the first rounds of a block whose first turns are so far apart."""
    return many * (2 * many + 2 * width - 3)


def whole_rounds(width, steps):
    """Return the greatest number of rounds for which `steps_of_rounds` is not more than the steps."""
    base = 2 * width - 3
    return (isqrt(base * base + 8 * steps) - base) // 4


def left_posts_to_last_turn(posts, place):
    """Return the number of posts that point left up to the last one at which a walker turns right of the place.

    A start at a post that points left is like a turn there.
    """
    start = count_up_to(posts, "L", place)
    beyond = count_up_to(posts, "L", line_length(posts) - 1) - start
    # The walker sets out for each turn from another post up to the place that has pointed right.
    return start + min(beyond, count_up_to(posts, "R", place))


def count_visits(posts, place, post):
    """Return how many steps a walker from the place makes from the post at the place `post`."""
    check_place(posts, place)
    check_place(posts, post)
    length = line_length(posts)
    if post < place:
        return count_visits(mirrored(posts), length - place, length - post)
    # The walker goes left from the post after each turn at it or beyond, and right before each turn beyond.
    turns = left_posts_to_last_turn(posts, place)
    to_left = max(0, turns - count_up_to(posts, "L", post - 1))
    to_right = max(0, turns - count_up_to(posts, "L", post))
    leaving = 1 if exit_end(posts, place) == "R" else 0
    return to_left + to_right + leaving


def greatest_place(posts, place):
    """Return the greatest place of a post from which a walker from the place makes a step."""
    if exit_end(posts, place) == "R":
        return line_length(posts) - 1
    return place_of(posts, "L", left_posts_to_last_turn(posts, place) - 1)


def farthest(posts, place):
    """Return the smallest and the greatest place of a post from which a walker from the place makes a step."""
    check_place(posts, place)
    length = line_length(posts)
    return length - greatest_place(mirrored(posts), length - place), greatest_place(posts, place)
