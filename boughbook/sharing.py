"""Trees as rows of shared knots, with one entry for each unlike tree in them."""

from boughbook.books import head_of
from boughbook.counting import height_of
from boughbook.errors import Great
from boughbook.folding import folded
from boughbook.patterns import called_by, calls_in, is_call
from boughbook.running import TALLEST
from boughbook.trees import walked


def parts_in(pattern):
    """The pair of the pattern's parts, by places ascending, and of a dict from its calls."""
    return (walked(pattern), dict([(call, True) for place, call in calls_in(pattern)]))


def entered(entries, parts, numbers):
    """The number of the entry of what the parts make; it and those beneath it are put into `entries`.

    `entries` is a dict from entries to their numbers, `numbers` one from calls to the
    numbers of what they make.
    """
    done = []
    # Backwards, so that all kids have their numbers when their knot is met.
    for part in reversed(parts):
        if is_call(part):
            done.append(numbers[called_by(part)])
        else:
            kids = [done.pop() for kid in part[1:]]
            done.append(entries.setdefault(part[:1] + tuple(kids), len(entries)))
    return done[0]


def in_order(row, at):
    """The pair (row, at) with the entries in the order in which a walk is first done with them."""
    fresh = {}
    told = []
    ahead = [at]
    while ahead:
        entry = row[ahead[-1]]
        late = [kid for kid in entry[1:] if kid not in fresh]
        if late:
            ahead.append(late[0])
        else:
            fresh[ahead.pop()] = len(told)
            told.append(entry[:1] + tuple([fresh[kid] for kid in entry[1:]]))
    return (tuple(told), fresh[at])


def shared_row(tree):
    """The shared row of the tree."""
    entries = {}
    at = entered(entries, walked(tree), {})
    return in_order(list(entries), at)


def shared(book, tree):
    """The shared row of the outcome."""
    if height_of(book, tree) > TALLEST:
        raise Great("the outcome is too tall")
    entries = {}
    at = folded(book, head_of(book), tree, parts_in, lambda pair, numbers: entered(entries, pair[0], numbers))
    return in_order(list(entries), at)


def unshared(pair):
    """The tree of which the pair (row, at) is the shared row."""
    row, at = pair
    trees = []
    for entry in row:
        trees.append(entry[:1] + tuple([trees[kid] for kid in entry[1:]]))
    return trees[at]
