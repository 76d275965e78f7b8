"""Kinds, trees over them, and places.

The walks here also serve patterns and fronts, which have places as trees have.
"""

from boughbook.errors import NoKinds, NoPlace

CALL_SIGN = "?"

MOST_LETTERS = 8
MOST_KINDS = 8
MOST_KIDS = 3


def is_number(thing):
    # Python counts True and False as whole numbers; the document does not.
    return isinstance(thing, int) and not isinstance(thing, bool)


def is_below(number, bound):
    return is_number(number) and 0 <= number < bound


def is_name(thing):
    if not isinstance(thing, str) or not 1 <= len(thing) <= MOST_LETTERS:
        return False
    # Not islower or isalpha: these also take letters beyond a to z.
    return all(["a" <= sign <= "z" for sign in thing])


def is_kind(pair):
    return len(pair) == 2 and is_name(pair[0]) and is_below(pair[1], MOST_KIDS + 1)


def are_kinds(kinds):
    if not 1 <= len(kinds) <= MOST_KINDS or not all([is_kind(pair) for pair in kinds]):
        return False
    names = [pair[0] for pair in kinds]
    return len(set(names)) == len(names) and 0 in [pair[1] for pair in kinds]


def kinds_of(pairs):
    """The kinds that a list or tuple of pairs tells."""
    kinds = tuple([tuple(pair) for pair in pairs])
    if not are_kinds(kinds):
        raise NoKinds("these pairs are no kinds")
    return kinds


def many_of(kinds, name):
    """How many kids a knot of this name has; -1 where no kind has the name."""
    for kind, many in kinds:
        if kind == name:
            return many
    return -1


def kids_of(thing):
    # What stands in a call behind its sign is numbers, not kids.
    if thing[0] == CALL_SIGN:
        return ()
    return thing[1:]


# The walks below keep their own lists of what is ahead: a tree may be taller
# than a recursion may be deep.


def walked(thing):
    """What stands at each place of the thing, by places ascending."""
    met = []
    ahead = [thing]
    while ahead:
        part = ahead.pop()
        met.append(part)
        # The kids backwards, so that the first one is met next.
        ahead.extend(kids_of(part)[::-1])
    return met


def placed(thing):
    """The pairs (place, what stands there) of the thing, by places ascending."""
    met = []
    ahead = [((), thing)]
    while ahead:
        place, part = ahead.pop()
        met.append((place, part))
        kids = [(place + (number,), kid) for number, kid in enumerate(kids_of(part))]
        ahead.extend(kids[::-1])
    return met


def built(tops):
    """The thing of which tops tells, by places ascending, each place's pair (top, many).

    As many of the things that come next are put behind the top as its kids; a whole
    thing stands as a top of its own, with 0.
    """
    done = []
    # Backwards, so that all kids are done when their knot is met.
    for top, many in reversed(tops):
        if many > 0:
            done.append(top + tuple([done.pop() for number in range(many)]))
        else:
            done.append(top)
    return done[0]


def fits(kinds, tree):
    """True where the tree is one over the kinds."""
    for knot in walked(tree):
        if many_of(kinds, knot[0]) != len(knot) - 1:
            return False
    return True


def knots(tree):
    """How many knots the tree has."""
    return len(walked(tree))


def tall(tree):
    """How tall the tree is."""
    level = [tree]
    rows = 0
    while level:
        rows += 1
        beneath = []
        for part in level:
            beneath.extend(kids_of(part))
        level = beneath
    return rows


def places(tree):
    """The list of the tree's places, ascending."""
    return [place for place, knot in placed(tree)]


def kid_at(thing, number):
    kids = kids_of(thing)
    if not is_below(number, len(kids)):
        # The number is not told: Python refuses to write very great ones.
        raise NoPlace("the place leads to no knot")
    return kids[number]


def knot_at(tree, place):
    """The tree that stands at the place."""
    part = tree
    for number in place:
        part = kid_at(part, number)
    return part


def put_at(tree, place, other):
    """The tree with `other` standing at the place instead."""
    above = []
    part = tree
    for number in place:
        above.append((part, number))
        part = kid_at(part, number)
    made = other
    for knot, number in reversed(above):
        made = knot[:number + 1] + (made,) + knot[number + 2:]
    return made
