"""The errors of the package: PostError and, directly below it, one class for each kind of failure."""


class PostError(ValueError):
    """The base class of all errors of the package."""


class InvalidPosts(PostError):
    """A value is not posts."""


class InvalidPlace(PostError):
    """A value is not the place of a post."""


class InvalidSide(PostError):
    """A value is neither "L" nor "R"."""


class InvalidNumber(PostError):
    """A value is not an integer in the range that is asked for."""


class InvalidCrowd(PostError):
    """A value is not a crowd for the line."""


class InvalidExits(PostError):
    """A value is not a list of exits for the line."""


class InvalidText(PostError):
    """A value is not a text of the form that is asked for."""


class OtherLength(PostError):
    """Two lines have different lengths."""


class NotSettled(PostError):
    """Posts are not settled."""


class NotPossible(PostError):
    """No posts agree with the exits that have been seen."""


class NothingToUndo(PostError):
    """There is no walk that could be taken back."""


class TooManyWalks(PostError):
    """There are more walks than are allowed."""


class TooLarge(PostError):
    """There are more posts than `limit`, the number up to which an answer is given."""

    def __init__(self, limit):
        self.limit = limit
