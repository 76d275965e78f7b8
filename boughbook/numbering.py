"""Books whose states are at first known by other things than numbers, such as pairs."""

from boughbook.books import MOST_STATES
from boughbook.errors import Many
from boughbook.patterns import called_in, restated


def renamed(pattern, numbers):
    """The pattern with each call's thing replaced by its number; things met first get the next numbers."""
    for thing, kid in called_in(pattern):
        numbers.setdefault(thing, len(numbers))
    if len(numbers) > MOST_STATES:
        raise Many("there would be too many states")
    return restated(pattern, numbers)


def numbered(ins, outs, head, patterns_of):
    """The book of just the states that are called, numbered in the order in which they are first called.

    The calls in the head, and in the patterns that `patterns_of` tells of a thing, name
    things in place of states.
    """
    numbers = {}
    fresh_head = renamed(head, numbers)
    rules = []
    while len(rules) < len(numbers):
        thing = list(numbers)[len(rules)]
        rules.append(tuple([renamed(pattern, numbers) for pattern in patterns_of(thing)]))
    return (ins, outs, fresh_head, tuple(rules))
