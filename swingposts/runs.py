"""Runs of posts: how they are joined, mirrored, and what they are when some posts have swung."""


def join_runs(pieces):
    """Return as posts what the pieces are one after another; pieces are runs, empty ones too."""
    runs = []
    for side, count in pieces:
        if count == 0:
            continue
        if runs and runs[-1][0] == side:
            runs[-1] = (side, runs[-1][1] + count)
        else:
            runs.append((side, count))
    return tuple(runs)


def other_side(side):
    """Return the side to which a post with this side swings."""
    return "R" if side == "L" else "L"


def mirrored(posts):
    """Return the posts as they are seen from behind the line, where left is right and the last place is the first."""
    return tuple([(other_side(side), count) for side, count in posts[::-1]])


def swing_first(posts, side, many):
    """Return the posts when the first so many posts with this side have swung to the other side."""
    other = other_side(side)
    pieces = []
    rest = many
    for run_side, count in posts:
        swung = min(rest, count) if run_side == side else 0
        pieces.append((other, swung))
        pieces.append((run_side, count - swung))
        rest -= swung
    return join_runs(pieces)


def swing_last(posts, side, many):
    """Return the posts when the last so many posts with this side have swung to the other side."""
    return swing_first(posts[::-1], side, many)[::-1]
