"""The front of each state, and trees that part at its holes.

Each front is first cut out of what the state makes of the smallest tree, by what it makes of
knots above the smallest tree. Then holes spread: where a pattern calls a state, each hole of
that state's front is a hole beneath the call's place, too. Each hole is followed once, by the
fewest steps from the first holes. On the way it never comes further up, and equally far down
it comes to each state once; so it is at most 20 times 20 steps, each of which makes the trees
that part there one taller.
"""

from boughbook.books import ins_of, rules_of, states_of
from boughbook.patterns import HOLE, calls_in, common, filled, holes_in, is_hole
from boughbook.trees import MOST_KIDS, built, placed, places


def small_tree(ins):
    """A tree of one knot."""
    return [(name,) for name, many in ins if many == 0][0]


def knot_above(ins, kind, kids):
    """A knot of the kind with the trees that the dict `kids` has as its kids, else small ones."""
    name, many = kind
    return (name,) + tuple([kids.get(kid, small_tree(ins)) for kid in range(many)])


def first_makings(book):
    """The dict from calls to what their states make of the smallest tree."""
    names = [(name,) for name, many in ins_of(book)]
    at = names.index(small_tree(ins_of(book)))
    made = {}
    for state, patterns in enumerate(rules_of(book)):
        for kid in range(MOST_KIDS):
            made[(state, kid)] = patterns[at]
    return made


def first_front(book, state, made, partings):
    """The state's front as far as knots above the smallest tree tell; its holes are put into `partings`."""
    ins = ins_of(book)
    front = made[(state, 0)]
    for kind, pattern in zip(ins, rules_of(book)[state]):
        front = common(front, filled(pattern, made))
        for place in holes_in(front):
            partings.setdefault((state, place), (small_tree(ins), knot_above(ins, kind, {})))
    return front


def put_links(book, state, front, links):
    """Puts into `links` what the places of the state's front hang on.

    It is a dict from pairs (state, place) to lists of (state, place, kind, kid): what the
    latter state makes of a knot of the kind has, at its place, what the former one makes of
    the kid at its own.
    """
    parts = dict(placed(front))
    for kind, pattern in zip(ins_of(book), rules_of(book)[state]):
        for place, (lower, kid) in calls_in(pattern):
            # Where the front has not this place, it has a hole above it already.
            if place in parts:
                for inner in places(parts[place]):
                    links.setdefault((lower, inner), []).append((state, place + inner, kind, kid))


def spread(ins, links, partings):
    """Follows the links from all holes, and puts the holes that come of it into `partings`."""
    holes = list(partings)
    at = 0
    while at < len(holes):
        one, two = partings[holes[at]]
        for state, place, kind, kid in links.get(holes[at], []):
            if (state, place) not in partings:
                partings[(state, place)] = (knot_above(ins, kind, {kid: one}), knot_above(ins, kind, {kid: two}))
                holes.append((state, place))
        at += 1


def cut_front(front, state, partings):
    """The front with holes where `partings` has them."""
    tops = []
    ahead = [((), front)]
    while ahead:
        place, part = ahead.pop()
        if is_hole(part) or (state, place) in partings:
            tops.append((HOLE, 0))
        else:
            tops.append((part[:1], len(part) - 1))
            kids = [(place + (number,), kid) for number, kid in enumerate(part[1:])]
            ahead.extend(list(reversed(kids)))
    return built(tops)


def found_fronts(book):
    """The fronts of the states, and a dict from pairs (state, place of a hole) to pairs of trees."""
    made = first_makings(book)
    partings = {}
    firsts = [first_front(book, state, made, partings) for state in range(states_of(book))]
    links = {}
    for state, front in enumerate(firsts):
        put_links(book, state, front, links)
    spread(ins_of(book), links, partings)
    return ([cut_front(front, state, partings) for state, front in enumerate(firsts)], partings)


def fronts_of(book):
    """The list of the fronts of the states."""
    fronts, partings = found_fronts(book)
    return fronts


def partings_of(book):
    """For each state the list that has, for each hole of its front, a pair of trees that part there."""
    fronts, partings = found_fronts(book)
    told = []
    for state, front in enumerate(fronts):
        told.append([partings[(state, place)] for place in holes_in(front)])
    return told
