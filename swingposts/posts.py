"""Posts: what they are, how many there are, and where they stand and point."""

from swingposts.errors import InvalidNumber, InvalidPlace, InvalidPosts, InvalidSide, OtherLength


def is_integer(value):
    """Return whether any value is an integer."""
    return isinstance(value, int) and not isinstance(value, bool)


def is_side(value):
    """Return whether any value is a side."""
    # Values of other kinds may compare in ways of their own, so the kind is asked first.
    return isinstance(value, str) and value in ("L", "R")


def is_run(value):
    """Return whether any value is a run of posts."""
    if not isinstance(value, tuple) or len(value) != 2:
        return False
    side, count = value
    return is_side(side) and is_integer(count) and count >= 1


def is_posts(value):
    """Return whether any value is posts."""
    if not isinstance(value, tuple) or len(value) == 0:
        return False
    if not all([is_run(run) for run in value]):
        return False
    sides = [side for side, count in value]
    return all([side != after for side, after in zip(sides, sides[1:])])


def check_posts(posts):
    """Raise InvalidPosts for anything but posts."""
    if not is_posts(posts):
        raise InvalidPosts()


def check_place_on(length, place):
    """Raise InvalidPlace for anything but the place of a post on a line of this length."""
    if not is_integer(place) or place < 1 or place >= length:
        raise InvalidPlace()


def check_place(posts, place):
    """Raise InvalidPosts for anything but posts, then InvalidPlace for anything but a place of one of them."""
    check_place_on(line_length(posts), place)


def check_both(posts, other):
    """Raise InvalidPosts for the first value that is not posts, then OtherLength if the lines differ in length."""
    length = line_length(posts)
    if line_length(other) != length:
        raise OtherLength()


def check_side(side):
    """Raise InvalidSide for anything but a side."""
    if not is_side(side):
        raise InvalidSide()


def check_index(index):
    """Raise InvalidNumber for anything but an integer from 0 on."""
    if not is_integer(index) or index < 0:
        raise InvalidNumber()


def line_length(posts):
    """Return the length of the line, which is one more than the number of its posts."""
    check_posts(posts)
    return sum([count for side, count in posts]) + 1


def count_right(posts):
    """Return the number of posts that point right."""
    check_posts(posts)
    return sum([count for side, count in posts if side == "R"])


def sum_right(posts):
    """Return the sum of the places of the posts that point right."""
    check_posts(posts)
    total = 0
    before = 0
    for side, count in posts:
        if side == "R":
            total += before * count + count * (count + 1) // 2
        before += count
    return total


def side_at(posts, place):
    """Return the side to which the post at the place points."""
    check_place(posts, place)
    last = 0
    for side, count in posts:
        last += count
        if place <= last:
            return side


def place_of(posts, side, index):
    """Return the place of the post with the index among those with the side, or None if it has no such post."""
    check_posts(posts)
    check_side(side)
    check_index(index)
    first = 1
    rest = index
    for run_side, count in posts:
        if run_side == side:
            if rest < count:
                return first + rest
            rest -= count
        first += count
    return None
