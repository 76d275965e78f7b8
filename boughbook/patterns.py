"""Patterns, which are trees with calls, and fronts, which are trees with holes."""

from boughbook.trees import CALL_SIGN, built, is_below, kids_of, many_of, placed, tall, walked

HOLE = ("*",)


def is_call(thing):
    return thing[0] == CALL_SIGN


def is_hole(thing):
    return thing == HOLE


def is_knot(thing):
    return not is_call(thing) and not is_hole(thing)


def called_by(call):
    """The pair (state, kid) of a call."""
    return (call[1], call[2])


def fits_pattern(kinds, pattern, states, kids):
    """True where it is a pattern over the kinds that calls only states and kids below the given ones."""
    for part in walked(pattern):
        if is_call(part):
            if not is_below(part[1], states) or not is_below(part[2], kids):
                return False
        elif many_of(kinds, part[0]) != len(part) - 1:
            return False
    return True


def knots_of(pattern):
    """How many knots the pattern or front has."""
    return len([part for part in walked(pattern) if is_knot(part)])


def tall_of(pattern):
    """How tall the pattern or front is."""
    return tall(pattern)


def calls_in(pattern):
    """The list of pairs (place, (state, kid)) of all calls, ascending by places."""
    return [(place, called_by(part)) for place, part in placed(pattern) if is_call(part)]


def called_in(pattern):
    """The list of the pairs (state, kid) of all calls, by places ascending."""
    return [called_by(part) for part in walked(pattern) if is_call(part)]


def holes_in(front):
    """The list of the places of the front's holes, ascending."""
    return [place for place, part in placed(front) if is_hole(part)]


def top_of(part):
    """The pair (top, many) that stands for the part's own top where a thing is built."""
    many = len(kids_of(part))
    return (part[:len(part) - many], many)


def filled(pattern, table):
    """The pattern with each call replaced by what the table has for its pair (state, kid)."""
    tops = []
    for part in walked(pattern):
        if is_call(part):
            tops.append((table[called_by(part)], 0))
        else:
            tops.append(top_of(part))
    return built(tops)


def restated(pattern, names):
    """The pattern with each call's state replaced by what `names`, a dict or a list, has for it."""
    table = {}
    for state, kid in called_in(pattern):
        table[(state, kid)] = (CALL_SIGN, names[state], kid)
    return filled(pattern, table)


def hung(front, parts):
    """The front with its holes replaced, in order, by the parts."""
    tops = []
    used = 0
    for part in walked(front):
        if is_hole(part):
            tops.append((parts[used], 0))
            used += 1
        else:
            tops.append(top_of(part))
    return built(tops)


def same_top(one, two):
    return is_knot(one) and one[0] == two[0] and len(one) == len(two)


def side_by_side(one, two):
    """The pairs of what stands in both at one place, ascending, as far down as all above has the same tops."""
    met = []
    ahead = [(one, two)]
    while ahead:
        left, right = ahead.pop()
        met.append((left, right))
        if same_top(left, right):
            ahead.extend(list(reversed(list(zip(left[1:], right[1:])))))
    return met


def lies_on(front, thing):
    """True where the front lies on the thing."""
    for left, right in side_by_side(front, thing):
        if not is_hole(left) and not same_top(left, right):
            return False
    return True


def common(one, two):
    """The common front of two things."""
    tops = []
    for left, right in side_by_side(one, two):
        if same_top(left, right):
            tops.append(top_of(left))
        else:
            tops.append((HOLE, 0))
    return built(tops)


def parts_at(front, thing):
    """The list of what stands in the thing at the places of the front's holes, in their order."""
    return [right for left, right in side_by_side(front, thing) if is_hole(left)]
