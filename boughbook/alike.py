"""Whether two books turn every tree alike, and a tree and a place that part them where not.

Pairs of states are met from the heads on, those that fewer calls lead to first. So where two
books part, it is told by the fewest calls: by fewer than the two earliest books have states
together, since each further call would have to tell apart states that fewer calls do not.
"""

from boughbook.books import ins_of, outs_of
from boughbook.earliest import earliest
from boughbook.errors import NotOne
from boughbook.fronts import knot_above, partings_of, small_tree
from boughbook.outlines import outlines_of, patterns_at
from boughbook.patterns import called_by, calls_in, is_call, same_top
from boughbook.peeking import peeked_by
from boughbook.running import HEAD


def check_kinds(one, two):
    if ins_of(one) != ins_of(two) or outs_of(one) != outs_of(two):
        raise NotOne("the ins or the outs of the books are not the same")


def meet(one, two):
    """The pair (met, split) of the pairs of states that are met and of where patterns do not match.

    `met` is a dict from pairs to triples (pair, kind, call) that lead to them: a call of the
    pair's patterns for a kind, by numbers. `split` is a pair (pair, kind), None where all match.
    The heads are the pair (HEAD, HEAD), which stands in `pairs` alone.
    """
    ones = outlines_of(one)
    twos = outlines_of(two)
    met = {}
    pairs = [(HEAD, HEAD)]
    done = 0
    while done < len(pairs):
        pair = pairs[done]
        for kind, (left, right) in enumerate(zip(ones[pair[0]], twos[pair[1]])):
            if left[0] != right[0]:
                return (met, (pair, kind))
            for number, called in enumerate(zip(left[1], right[1])):
                if called not in met:
                    met[called] = (pair, kind, number)
                    pairs.append(called)
        done += 1
    return (met, None)


def pairs_of(one, two):
    """The list of pairs of states that are met where two earliest books are alike, else None."""
    check_kinds(one, two)
    met, split = meet(one, two)
    if split is not None:
        return None
    return list(met)


def alike(one, two):
    """True where the books turn every tree into the same outcome."""
    check_kinds(one, two)
    return pairs_of(earliest(one), earliest(two)) is not None


def same_kid(left, right):
    """True where both are calls that hand on the same kid."""
    return is_call(left) and is_call(right) and left[2] == right[2]


def first_split(one, two):
    """The first place at which two patterns do not match, and what stands there in both."""
    place, left, right = (), one, two
    ahead = []
    while same_top(left, right) or same_kid(left, right):
        if same_top(left, right):
            kids = list(enumerate(zip(left[1:], right[1:])))
            ahead.extend([(place + (number,), pair[0], pair[1]) for number, pair in reversed(kids)])
        place, left, right = ahead.pop()
    return (place, left, right)


def name_by(book, part, small):
    """The name at the top of what comes of a part of a pattern whose calls hand on small trees."""
    if is_call(part):
        return peeked_by(book, part[1], small, ())
    return part[0]


def unlike_tree(book, state, name):
    """A tree of which the state of an earliest book makes one with another name at its top."""
    one, two = partings_of(book)[state][0]
    return two if peeked_by(book, state, one, ()) == name else one


def parting_kids(one, two, left, right):
    """The dict from kids to trees by which what comes of these parts, which do not match, has unlike names."""
    if is_call(right):
        state, kid = called_by(right)
        # Where both are calls they hand on unlike kids: the other one's kid stays small.
        return {kid: unlike_tree(two, state, name_by(one, left, small_tree(ins_of(one))))}
    if is_call(left):
        state, kid = called_by(left)
        return {kid: unlike_tree(one, state, right[0])}
    return {}


def parting(one, two, met, split):
    """The tree and the place that part two earliest books whose patterns do not match there."""
    ins = ins_of(one)
    pair, kind = split
    place, left, right = first_split(patterns_at(one, pair[0])[kind], patterns_at(two, pair[1])[kind])
    kids = parting_kids(one, two, left, right)
    while pair[0] != HEAD:
        tree = knot_above(ins, ins[kind], kids)
        pair, kind, number = met[pair]
        above, call = calls_in(patterns_at(one, pair[0])[kind])[number]
        kids = {call[1]: tree}
        place = above + place
    return (kids.get(0, small_tree(ins)), place)


def parted(one, two):
    """The pair (tree, place) at which the outcomes of the two books part, None where they are alike."""
    check_kinds(one, two)
    early_one = earliest(one)
    early_two = earliest(two)
    met, split = meet(early_one, early_two)
    if split is None:
        return None
    return parting(early_one, early_two, met, split)
