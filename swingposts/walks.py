"""Walks: where walkers leave the line, after how many steps, and which posts they leave behind."""

from swingposts.posts import check_place, check_posts, count_right, line_length, sum_right
from swingposts.runs import swing_first, swing_last


def exit_end(posts, place):
    """Return the end at which a walker from the place leaves."""
    check_place(posts, place)
    return "R" if count_right(posts) + place >= line_length(posts) else "L"


def posts_after(posts, place):
    """Return the posts after the walk of a walker from the place."""
    if exit_end(posts, place) == "L":
        return swing_first(posts, "L", place)
    return swing_last(posts, "R", line_length(posts) - place)


def step_level(posts, place):
    """Return the number that grows by exactly 1 with every step of a walker, who is at the place now."""
    return place * place + 2 * sum_right(posts)


def count_steps(posts, place):
    """Return the number of steps of a walker from the place."""
    last = 0 if exit_end(posts, place) == "L" else line_length(posts)
    return step_level(posts_after(posts, place), last) - step_level(posts, place)


def walked(posts, *places):
    """Return the posts after walks from the places, one after another, and the list of the ends."""
    check_posts(posts)
    for place in places:
        check_place(posts, place)
    now = posts
    ends = []
    for place in places:
        ends.append(exit_end(now, place))
        now = posts_after(now, place)
    return now, ends


def named_ends(posts, **walkers):
    """Return the ends at which walkers with names leave, one after another, as a dict from the names."""
    places = list(walkers.values())
    ends = walked(posts, *places)[1]
    return dict(zip(list(walkers), ends))
