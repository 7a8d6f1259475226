"""Runs of posts: how they are joined, mirrored and compared, and what they are when some posts have swung."""


def join_runs(pieces):
    """Return as posts what the pieces are one after another; pieces are runs, empty ones too."""
    runs = []
    for side, count in pieces:
        if count == 0:
            continue
        if runs and runs[-1][0] == side:
            runs[-1] = (side, runs[-1][1] + count)
        else:
            runs.append((side, count))
    return tuple(runs)


def other_side(side):
    """Return the side to which a post with this side swings."""
    return "R" if side == "L" else "L"


def mirrored(posts):
    """Return the posts as they are seen from behind the line, where left is right and the last place is the first."""
    return tuple([(other_side(side), count) for side, count in posts[::-1]])


def swing_first(posts, side, many):
    """Return the posts when the first so many posts with this side have swung to the other side."""
    other = other_side(side)
    pieces = []
    rest = many
    for run_side, count in posts:
        swung = min(rest, count) if run_side == side else 0
        pieces.append((other, swung))
        pieces.append((run_side, count - swung))
        rest -= swung
    return join_runs(pieces)


def swing_last(posts, side, many):
    """Return the posts when the last so many posts with this side have swung to the other side."""
    return swing_first(posts[::-1], side, many)[::-1]


def side_by_side(posts, goal):
    """Return two lines of the same length in pieces (first place, count, side, goal side), one after another."""
    pieces = []
    first = 1
    rest = list(posts[::-1])
    goal_rest = list(goal[::-1])
    while rest:
        side, count = rest.pop()
        goal_side, goal_count = goal_rest.pop()
        many = min(count, goal_count)
        pieces.append((first, many, side, goal_side))
        first += many
        if count > many:
            rest.append((side, count - many))
        if goal_count > many:
            goal_rest.append((goal_side, goal_count - many))
    return pieces
