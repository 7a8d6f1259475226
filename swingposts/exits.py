"""Exits: what walkers that are seen to leave tell of posts that are not seen.

With each walker the number of right posts grows by its place, and falls by the length if it leaves at "R". Exits fit a
first number of right posts if this number stays one from 0 to length - 1.
"""

from swingposts.errors import InvalidExits, NotPossible
from swingposts.lengths import check_length
from swingposts.posts import check_place_on, is_integer, is_side


def is_exit(value):
    """Return whether any value is the place of a walker and an end, for a line that is long enough."""
    if not isinstance(value, tuple) or len(value) != 2:
        return False
    place, end = value
    return is_integer(place) and place >= 1 and is_side(end)


def is_exits(value):
    """Return whether any value is a list of exits, for a line that is long enough."""
    return isinstance(value, list) and all([is_exit(entry) for entry in value])


def check_exits(length, seen):
    """Raise InvalidNumber for anything but a length, then InvalidExits for anything but exits from such a line."""
    check_length(length)
    if not is_exits(seen) or any([place >= length for place, end in seen]):
        raise InvalidExits()


def right_gains(length, seen):
    """Return by how much the number of right posts has grown before each walker and after the last one."""
    gains = [0]
    for place, end in seen:
        fall = length if end == "R" else 0
        gains.append(gains[-1] + place - fall)
    return gains


def possible_rights(length, seen):
    """Return the smallest and the greatest number of right posts before the first walker, or None if none fits."""
    check_exits(length, seen)
    gains = right_gains(length, seen)
    least = -min(gains)
    greatest = length - 1 - max(gains)
    return (least, greatest) if least <= greatest else None


def first_not_possible(length, gains):
    """Return the smallest number of walkers that cannot leave as seen, or None if all of them can."""
    least = greatest = 0
    for walkers, gain in enumerate(gains):
        least = min(least, gain)
        greatest = max(greatest, gain)
        if greatest - least >= length:
            return walkers
    return None


def contradiction(length, seen):
    """Return (j, k) for which the walkers j to k - 1 cannot leave as seen, or None if all of them can.

    It is the smallest such k, and for it the greatest such j.
    """
    check_exits(length, seen)
    gains = right_gains(length, seen)
    last = first_not_possible(length, gains)
    if last is None:
        return None
    # The walkers before the last one fit, so the last gain is one of the two that lie too far apart.
    return max([at for at in range(last) if abs(gains[at] - gains[last]) >= length]), last


def next_end(length, seen, place):
    """Return the end at which a next walker from the place leaves, or None if this is not known."""
    check_exits(length, seen)
    check_place_on(length, place)
    rights = possible_rights(length, seen)
    if rights is None:
        raise NotPossible()
    least, greatest = rights
    gain = right_gains(length, seen)[-1]
    if least + gain + place >= length:
        return "R"
    return "L" if greatest + gain + place < length else None
