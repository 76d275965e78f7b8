"""What stands at one place of an outcome, told without making the rest."""

from boughbook.books import head_of
from boughbook.running import above, call_of, resolved
from boughbook.trees import kid_at


def name_at(book, head, tree, place):
    """The name at the place of what comes of the tree by this head and the book's states."""
    part, knot = resolved(book, head, above(tree))
    for number in place:
        part, knot = resolved(book, kid_at(part, number), knot)
    return part[0]


def peeked(book, tree, place):
    """The name of the knot at the place of the outcome."""
    return name_at(book, head_of(book), tree, place)


def peeked_by(book, state, tree, place):
    """The name of the knot at the place of what the state makes of the tree."""
    return name_at(book, call_of(state), tree, place)
