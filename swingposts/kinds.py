"""Kinds of live lines: one with a limit for the walks, one with a toll for the steps, and one with both."""

from swingposts.errors import TooManyWalks
from swingposts.live import LiveLine
from swingposts.posts import check_index, check_place
from swingposts.texts import write_number


class LimitedLine(LiveLine):
    """A live line that allows only so many walks at a time."""

    def __init__(self, posts, limit=10):
        LiveLine.__init__(self, posts)
        check_index(limit)
        self._limit = limit

    def _check_allowed(self, many):
        """Raise TooManyWalks if so many more walks are not allowed now."""
        if many > self._limit - len(self):
            raise TooManyWalks()

    def walk(self, place):
        """Let a walker walk from the place, and return the end at which it leaves."""
        check_place(self.now, place)
        self._check_allowed(1)
        return super().walk(place)

    def try_walks(self, *places):
        """Return the ends at which walkers from these places would leave one after another."""
        ends = super().try_walks(*places)
        self._check_allowed(len(places))
        return ends

    def told(self):
        """Return what there is to tell of this line, as a list of texts."""
        return super().told() + [f"left {write_number(self._limit - len(self))}"]


class TollLine(LiveLine):
    """A live line on which each step costs a toll."""

    def __init__(self, posts, toll=1):
        LiveLine.__init__(self, posts)
        check_index(toll)
        self._toll = toll

    @property
    def due(self):
        """What all steps cost together."""
        return self._toll * self.steps_made

    def told(self):
        """Return what there is to tell of this line, as a list of texts."""
        return super().told() + [f"due {write_number(self.due)}"]


class LimitedTollLine(LimitedLine, TollLine):
    """A live line with a limit and a toll."""

    def __init__(self, posts, limit=10, toll=1):
        LimitedLine.__init__(self, posts, limit)
        TollLine.__init__(self, posts, toll)

    def told(self):
        """Return what there is to tell of this line, as a list of texts."""
        return super().told()
