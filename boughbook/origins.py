"""Where the knots of an outcome come from."""

from boughbook.books import head_of
from boughbook.patterns import called_by, is_call
from boughbook.running import HEAD, above, led_on
from boughbook.trees import kid_at


def written(book, part, knot, origin):
    """The triple (part, knot, origin), led on through calls until the part has a knot at its top.

    The origin is the state whose pattern the part is of, and the place of the knot.
    """
    while is_call(part):
        state, kid = called_by(part)
        origin = (state, origin[1] + (kid,))
        part, knot = led_on(book, part, knot)
    return (part, knot, origin)


def origin_at(book, tree, place):
    """The origin of the outcome's knot at the place: the pair (state, place of a knot in the tree)."""
    part, knot, origin = written(book, head_of(book), above(tree), (HEAD, ()))
    for number in place:
        part, knot, origin = written(book, kid_at(part, number), knot, origin)
    # The head's calls hand on the whole tree as a kid, which is no step down the tree.
    return (origin[0], origin[1][1:])
