"""What a book makes of a tree, by walking."""

from boughbook.books import head_of, pattern_of
from boughbook.errors import Great
from boughbook.patterns import called_by, is_call
from boughbook.trees import CALL_SIGN, built

MOST_KNOTS = 2000
TALLEST = 150

# Stands for the head where a state is told.
HEAD = -1


def above(tree):
    """A knot whose one kid is the tree: the kid 0 that the head's calls hand on."""
    return ("", tree)


def call_of(state):
    """The head that makes of a tree what the state makes of it."""
    return (CALL_SIGN, state, 0)


def led_on(book, call, knot):
    """The pair (part, knot) to which a call leads: the state's pattern for the kid that is handed on, and this kid."""
    state, kid = called_by(call)
    handed = knot[kid + 1]
    return (pattern_of(book, state, handed[0]), handed)


def resolved(book, part, knot):
    """The pair (part, knot), led on through calls until the part has a knot at its top.

    The part is one of a pattern, the knot the tree whose kids its calls hand on.
    """
    while is_call(part):
        part, knot = led_on(book, part, knot)
    return (part, knot)


def run(book, head, tree):
    """What comes of the tree by this head and the book's states."""
    tops = []
    ahead = [(head, above(tree), 1)]
    # Nothing is made ahead of what stands before it, so that far too great an outcome is refused at once.
    while ahead:
        part, knot, row = ahead.pop()
        part, knot = resolved(book, part, knot)
        if len(tops) == MOST_KNOTS or row > TALLEST:
            raise Great("the outcome is too great")
        tops.append((part[:1], len(part) - 1))
        ahead.extend([(kid, knot, row + 1) for kid in reversed(part[1:])])
    return built(tops)


def turned(book, tree):
    """The outcome: what the book makes of the tree."""
    return run(book, head_of(book), tree)


def turned_by(book, state, tree):
    """What the state makes of the tree."""
    return run(book, call_of(state), tree)
