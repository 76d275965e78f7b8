"""The refusals: one class each, all of them straight under BookError."""


class BookError(ValueError):
    """Any refusal."""


class NoKinds(BookError):
    """Pairs that are no kinds."""


class NoTree(BookError):
    """A text that writes no tree over the kinds, or too great a one."""


class NoPlace(BookError):
    """A place that leads to no knot."""


class NoBook(BookError):
    """Things that make no book."""


class NoText(BookError):
    """A text whose rows write no book."""


class NotOne(BookError):
    """Books whose kinds do not go together."""


class Great(BookError):
    """What would come is too great."""


class Many(BookError):
    """There would be too many states or notes."""


class NoName(BookError):
    """A name under which no book is held."""
