"""Runs of posts: how they are joined, and what they are when some posts have swung."""


def join_runs(pieces):
    """Return as posts what the pieces are one after another; pieces are runs, empty ones too."""
    runs = []
    for side, count in pieces:
        if count == 0:
            continue
        if runs and runs[-1][0] == side:
            runs[-1] = (side, runs[-1][1] + count)
        else:
            runs.append((side, count))
    return tuple(runs)


def swing_first(posts, side, many):
    """Return the posts when the first so many posts with this side have swung to the other side."""
    other = "R" if side == "L" else "L"
    pieces = []
    rest = many
    for run_side, count in posts:
        swung = min(rest, count) if run_side == side else 0
        pieces.append((other, swung))
        pieces.append((run_side, count - swung))
        rest -= swung
    return join_runs(pieces)


def swing_last(posts, side, many):
    """Return the posts when the last so many posts with this side have swung to the other side."""
    return swing_first(posts[::-1], side, many)[::-1]
