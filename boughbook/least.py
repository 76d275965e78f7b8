"""The least book, which has one state for all that are alike."""

from boughbook.books import head_of, ins_of, outs_of, rules_of, states_of
from boughbook.earliest import earliest
from boughbook.numbering import numbered
from boughbook.outlines import outlines_of
from boughbook.patterns import restated


def firsts(keys):
    """The list that has for each key the number of the first one that is equal to it."""
    return [keys.index(key) for key in keys]


def classes_of(book):
    """The list that has for each state of an earliest book the number of the first state alike with it."""
    outlines = outlines_of(book)
    states = list(range(states_of(book)))
    fresh = firsts([[shape for shape, called in outlines[state]] for state in states])
    classes = []
    # States are held to be alike until their calls tell them apart.
    while fresh != classes:
        classes = fresh
        keys = []
        for state in states:
            called_classes = [[classes[each] for each in called] for shape, called in outlines[state]]
            keys.append((classes[state], called_classes))
        fresh = firsts(keys)
    return classes


def least(book):
    """The least book of the book."""
    early = earliest(book)
    classes = classes_of(early)

    def patterns_of(state):
        return [restated(pattern, classes) for pattern in rules_of(early)[state]]

    return numbered(ins_of(early), outs_of(early), restated(head_of(early), classes), patterns_of)
