"""The earliest book, which writes each knot as soon as it is sure."""

from boughbook.books import head_of, ins_of, is_small, outs_of, rules_of
from boughbook.errors import Great
from boughbook.fronts import fronts_of
from boughbook.numbering import numbered
from boughbook.patterns import filled, holes_in, hung
from boughbook.trees import CALL_SIGN, MOST_KIDS, knot_at


def early_table(fronts):
    """The dict from calls to what replaces them: fronts with calls of pairs (state, hole) in their holes."""
    table = {}
    for state, front in enumerate(fronts):
        for kid in range(MOST_KIDS):
            calls = [(CALL_SIGN, (state, hole), kid) for hole in range(len(holes_in(front)))]
            table[(state, kid)] = hung(front, calls)
    return table


def checked(pattern):
    if not is_small(pattern):
        raise Great("a pattern would be too great")
    return pattern


def earliest(book):
    """The earliest book of the book."""
    fronts = fronts_of(book)
    table = early_table(fronts)

    def patterns_of(pair):
        state, hole = pair
        place = holes_in(fronts[state])[hole]
        return [checked(knot_at(filled(pattern, table), place)) for pattern in rules_of(book)[state]]

    return numbered(ins_of(book), outs_of(book), checked(filled(head_of(book), table)), patterns_of)
