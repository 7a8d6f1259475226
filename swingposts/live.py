"""A live line: posts on which walkers walk one after another, and on which walks can be taken back."""

from swingposts.errors import NothingToUndo
from swingposts.posts import check_posts, count_right, is_posts
from swingposts.texts import parse_posts
from swingposts.walks import count_steps, exit_end, posts_after, walked


class LiveLine:
    """Posts that change with each walk."""

    ENDS = ("L", "R")

    def __init__(self, posts):
        self.begin(posts)

    @classmethod
    def read(cls, text):
        """Return an object of this class with the posts that the text stands for."""
        return cls(parse_posts(text))

    @staticmethod
    def is_valid(value):
        """Return whether any value is posts."""
        return is_posts(value)

    @property
    def now(self):
        """The posts now."""
        return self._posts

    @property
    def right_now(self):
        """The number of posts that point right now."""
        return count_right(self._posts)

    @property
    def steps_made(self):
        """The number of all steps of the walks that are not taken back."""
        return self._steps

    @property
    def ends_seen(self):
        """The tuple of the ends of the walks that are not taken back."""
        return tuple([end for place, end, posts, steps in self._walks])

    def __len__(self):
        return len(self._walks)

    def walk(self, place):
        """Let a walker walk from the place, and return the end at which it leaves."""
        end = exit_end(self._posts, place)
        steps = count_steps(self._posts, place)
        self._walks.append((place, end, self._posts, self._steps))
        self._posts = posts_after(self._posts, place)
        self._steps += steps
        return end

    def undo(self):
        """Take the latest walk back, and return its place."""
        if len(self._walks) == 0:
            raise NothingToUndo()
        place, _, posts, steps = self._walks.pop()
        self._posts = posts
        self._steps = steps
        return place

    def try_walks(self, *places):
        """Return the ends at which walkers from these places would leave one after another."""
        return walked(self._posts, *places)[1]

    def begin(self, posts):
        """Begin anew with these posts and no walks."""
        check_posts(posts)
        self._posts = posts
        self._steps = 0
        # For each walk its place and its end, and the posts and the number of steps before it.
        self._walks = []

    def told(self):
        """Return what there is to tell of this line, as a list of texts."""
        return [f"walks {len(self)}"]
