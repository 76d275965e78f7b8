"""What comes of a tree, worked out from its bottom up without being made.

A tree may stand for far more knots than could be walked, where the same kid stands in
several places. So it is taken level by level, each unlike kid of a level once. Kids are
held against one another by `==`, which is quick for the very same kid.
"""

from boughbook.books import ins_of, rules_of
from boughbook.running import HEAD, above


class Level:
    """The unlike trees that stand equally far down, and what is asked of them.

    For each tree there is a dict from the states that are asked to their digests, and
    one from the numbers of the kids that are handed on to their spots in the level beneath.
    """

    def __init__(self):
        self.trees = []
        self.asked = []
        self.kid_spots = []

    def spot_of(self, tree):
        if tree not in self.trees:
            self.trees.append(tree)
            self.asked.append({})
            self.kid_spots.append({})
        return self.trees.index(tree)


def digests_of(book, digest):
    """What `digest` tells of each pattern of the states: a dict from (state, name)."""
    told = {}
    for state, patterns in enumerate(rules_of(book)):
        for kind, pattern in zip(ins_of(book), patterns):
            told[(state, kind[0])] = digest(pattern)
    return told


def hand_on(digests, level, number, beneath):
    """Asks of the level beneath what the patterns of one tree of the level call."""
    tree = level.trees[number]
    spots = level.kid_spots[number]
    for own, calls in level.asked[number].values():
        for state, kid in calls:
            part = tree[kid + 1]
            if kid not in spots:
                spots[kid] = beneath.spot_of(part)
            beneath.asked[spots[kid]][state] = digests[(state, part[0])]


def levels_of(digests, head, tree):
    """The levels from the top down, as far as something is asked."""
    level = Level()
    top = level.spot_of(above(tree))
    level.asked[top][HEAD] = head
    levels = []
    while level.trees:
        levels.append(level)
        beneath = Level()
        for number in range(len(level.trees)):
            hand_on(digests, level, number, beneath)
        level = beneath
    return levels


def kid_worths(spots, beneath):
    """The dict from (state, kid) to what the state makes of the kid."""
    told = {}
    for kid, spot in spots.items():
        for state, value in beneath[spot].items():
            told[(state, kid)] = value
    return told


def folded(book, head, tree, digest, worth):
    """What `worth` tells of all that comes of the tree by this head and the book's states.

    `digest` makes of a pattern a pair, the second of which is a dict from its calls;
    `worth` takes such a pair, and a dict from these calls (and maybe more) to their worths.
    """
    beneath = []
    for level in reversed(levels_of(digests_of(book, digest), digest(head), tree)):
        told = []
        for asked, spots in zip(level.asked, level.kid_spots):
            kids = kid_worths(spots, beneath)
            told.append(dict([(state, worth(pair, kids)) for state, pair in asked.items()]))
        beneath = told
    return beneath[0][HEAD]
