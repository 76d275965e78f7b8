"""Books whose states are at first known by other things than numbers, such as pairs."""

from boughbook.books import MOST_STATES
from boughbook.errors import Many
from boughbook.patterns import calls_in, filled
from boughbook.trees import CALL_SIGN


def renamed(pattern, numbers):
    """The pattern with each call's thing replaced by its number; things met first get the next numbers."""
    table = {}
    for place, (thing, kid) in calls_in(pattern):
        numbers.setdefault(thing, len(numbers))
        if len(numbers) > MOST_STATES:
            raise Many("there would be too many states")
        table[(thing, kid)] = (CALL_SIGN, numbers[thing], kid)
    return filled(pattern, table)


def numbered(ins, outs, head, patterns_of):
    """The book of just the states that are called, numbered in the order in which they are first called.

    The calls in the head, and in the patterns that `patterns_of` tells of a thing, name
    things in place of states.
    """
    numbers = {}
    fresh_head = renamed(head, numbers)
    rules = []
    while len(rules) < len(numbers):
        thing = list(numbers)[len(rules)]
        rules.append(tuple([renamed(pattern, numbers) for pattern in patterns_of(thing)]))
    return (ins, outs, fresh_head, tuple(rules))
