"""Crowds: many walkers from many places, one after another."""

from swingposts.errors import InvalidCrowd
from swingposts.posts import count_right, is_integer, line_length, sum_right
from swingposts.settling import swing_both


def is_entry(value):
    """Return whether any value is a place and a number of walkers, for a line that is long enough."""
    if not isinstance(value, tuple) or len(value) != 2:
        return False
    place, count = value
    return is_integer(place) and place >= 1 and is_integer(count) and count >= 0


def is_crowd(value):
    """Return whether any value is a crowd, for a line that is long enough."""
    return isinstance(value, list) and all([is_entry(entry) for entry in value])


def check_crowd(posts, crowd):
    """Raise InvalidPosts for anything but posts, then InvalidCrowd for anything but a crowd for their line."""
    length = line_length(posts)
    if not is_crowd(crowd) or any([place >= length for place, count in crowd]):
        raise InvalidCrowd()


def after_crowd(posts, crowd):
    """Return the posts after all walks, and the numbers of walkers that have left at "L" and at "R"."""
    check_crowd(posts, crowd)
    length = line_length(posts)
    # Each walker adds its place to the number of right posts, and one that leaves at "R" takes the length away again.
    number = count_right(posts)
    left = right = to_right = to_left = 0
    for place, count in crowd:
        block_right, number = divmod(number + place * count, length)
        block_left = count - block_right
        left += block_left
        right += block_right
        to_right += block_left * place
        to_left += block_right * (length - place)
    return swing_both(posts, to_right, to_left), left, right


def crowd_steps(posts, crowd):
    """Return the number of all steps of the crowd."""
    after, left, right = after_crowd(posts, crowd)
    length = line_length(posts)
    # Each step adds 1 to place * place + 2 * sum_right, and the sum goes on from walker to walker.
    starts = sum([count * place * place for place, count in crowd])
    return right * length * length - starts + 2 * (sum_right(after) - sum_right(posts))
