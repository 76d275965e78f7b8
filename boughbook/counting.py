"""How many knots an outcome has and how tall it is, told without making it."""

from boughbook.books import head_of
from boughbook.folding import folded
from boughbook.patterns import calls_in, knots_of, tall_of
from boughbook.running import call_of


def times_in(pattern):
    """The pair of how many knots the pattern has, and of how many times each call stands in it."""
    times = {}
    for place, call in calls_in(pattern):
        times[call] = times.get(call, 0) + 1
    return (knots_of(pattern), times)


def count_worth(pair, counts):
    own, times = pair
    return own + sum([many * counts[call] for call, many in times.items()])


def depths_in(pattern):
    """The pair of how tall the pattern is, and of how far down each call stands at most."""
    depths = {}
    for place, call in calls_in(pattern):
        depths[call] = max(len(place), depths.get(call, 0))
    return (tall_of(pattern), depths)


def height_worth(pair, heights):
    own, depths = pair
    return max([own] + [depth + heights[call] for call, depth in depths.items()])


def count_of(book, tree):
    """How many knots the outcome has."""
    return folded(book, head_of(book), tree, times_in, count_worth)


def count_by(book, state, tree):
    """How many knots there are in what the state makes of the tree."""
    return folded(book, call_of(state), tree, times_in, count_worth)


def height_of(book, tree):
    """How tall the outcome is."""
    return folded(book, head_of(book), tree, depths_in, height_worth)


def height_by(book, state, tree):
    """How tall what the state makes of the tree is."""
    return folded(book, call_of(state), tree, depths_in, height_worth)
