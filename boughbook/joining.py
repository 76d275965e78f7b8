"""Books one behind another as one book, and books without the states that nobody calls."""

from boughbook.books import Measure, head_of, ins_of, made_book, outs_of, pattern_of, rules_of
from boughbook.errors import Great, NotOne
from boughbook.numbering import numbered
from boughbook.patterns import called_by, is_call, top_of
from boughbook.running import above, call_of
from boughbook.trees import CALL_SIGN, built, kids_of


def same_knot(name, many):
    """The pattern that leaves a knot as it is."""
    return (name,) + tuple([(CALL_SIGN, 0, kid) for kid in range(many)])


def same_book(kinds):
    """The book that turns each tree over the kinds into itself."""
    return made_book(kinds, kinds, call_of(0), [[same_knot(name, many) for name, many in kinds]])


def led_over(second, part, knot):
    """The pair (part, knot), led on until the part has a knot at its top or calls a pair of states.

    The part is one of a pattern of the second book, the knot one of a pattern of the first,
    the kids of which the part's calls hand on.
    """
    while is_call(part):
        state, kid = called_by(part)
        knot = knot[kid + 1]
        if is_call(knot):
            lower, handed = called_by(knot)
            return ((CALL_SIGN, (state, lower), handed), knot)
        part = pattern_of(second, state, knot[0])
    return (part, knot)


def run_over(second, head, pattern):
    """What comes of the first book's pattern by this head and the second book's states; its calls name pairs."""
    tops = []
    measure = Measure()
    ahead = [(head, above(pattern), 1)]
    # Nothing is made ahead of what stands before it, so that far too great a pattern is refused at once.
    while ahead:
        part, knot, row = ahead.pop()
        part, knot = led_over(second, part, knot)
        if not measure.takes(part, row):
            raise Great("a pattern would be too great")
        tops.append(top_of(part))
        ahead.extend([(kid, knot, row + 1) for kid in reversed(kids_of(part))])
    return built(tops)


def joined(first, second):
    """The book that turns each tree as the second one turns what the first makes of it."""
    if outs_of(first) != ins_of(second):
        raise NotOne("the outs of the first book are not the ins of the second")

    def patterns_of(pair):
        state, lower = pair
        return [run_over(second, call_of(state), pattern) for pattern in rules_of(first)[lower]]

    head = run_over(second, head_of(second), head_of(first))
    return numbered(ins_of(first), outs_of(second), head, patterns_of)


def trimmed(book):
    """The book with just the states that are called, numbered as they are first called."""
    return numbered(ins_of(book), outs_of(book), head_of(book), lambda state: rules_of(book)[state])
