"""What is alike in patterns that match, apart from which states they call."""

from boughbook.books import head_of, rules_of
from boughbook.patterns import called_in, restated
from boughbook.running import HEAD


def outline_of(pattern):
    """The pair of the pattern with its calls' states left out, and of the list of these states.

    Two patterns match just where the first things of these pairs are equal.
    """
    states = [state for state, kid in called_in(pattern)]
    return (restated(pattern, dict([(state, 0) for state in states])), states)


def patterns_at(book, state):
    """The patterns of the state; of HEAD the head alone."""
    if state == HEAD:
        return (head_of(book),)
    return rules_of(book)[state]


def outlines_of(book):
    """The dict from the states and HEAD to the lists of the outlines of their patterns."""
    told = {}
    for state in [HEAD] + list(range(len(rules_of(book)))):
        told[state] = [outline_of(pattern) for pattern in patterns_at(book, state)]
    return told
