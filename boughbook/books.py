"""Books: a head, and for each state and each kind of knot a pattern with calls."""

from boughbook.errors import NoBook
from boughbook.patterns import fits_pattern, is_call
from boughbook.trees import kids_of, kinds_of

MOST_STATES = 20

MOST_ROWS = 20
MOST_KNOTS = 400
MOST_CALLS = 200


class Measure:
    """How much of a pattern has been met, held against the bounds of a book's patterns."""

    def __init__(self):
        self.met_knots = 0
        self.met_calls = 0

    def takes(self, part, row):
        """Counts the part, so many rows down; True where all that was met is within the bounds."""
        if is_call(part):
            self.met_calls += 1
        else:
            self.met_knots += 1
        return row <= MOST_ROWS and self.met_knots <= MOST_KNOTS and self.met_calls <= MOST_CALLS


def is_small(pattern):
    """True where the pattern is within the bounds of a book's patterns."""
    measure = Measure()
    ahead = [(pattern, 1)]
    # The walk ends as soon as a bound is passed: what is handed in may have any number of knots.
    while ahead:
        part, row = ahead.pop()
        if not measure.takes(part, row):
            return False
        ahead.extend([(kid, row + 1) for kid in kids_of(part)])
    return True


def check_pattern(outs, pattern, states, kids):
    if not is_small(pattern):
        raise NoBook("a pattern is too great")
    if not fits_pattern(outs, pattern, states, kids):
        raise NoBook("a pattern is none over outs, or calls a state or a kid that there is not")


def check_state(ins, outs, patterns, states):
    if len(patterns) != len(ins):
        raise NoBook("a state has not one pattern for each kind of ins")
    for kind, pattern in zip(ins, patterns):
        check_pattern(outs, pattern, states, kind[1])


def made_book(ins, outs, head, rules):
    """The book of these kinds, this head and these patterns."""
    taken = kinds_of(ins)
    given = kinds_of(outs)
    rows = tuple([tuple(patterns) for patterns in rules])
    if len(rows) > MOST_STATES:
        raise NoBook("there are too many states")
    check_pattern(given, head, len(rows), 1)
    for patterns in rows:
        check_state(taken, given, patterns, len(rows))
    return (taken, given, head, rows)


def ins_of(book):
    return book[0]


def outs_of(book):
    return book[1]


def head_of(book):
    return book[2]


def rules_of(book):
    return book[3]


def states_of(book):
    """How many states the book has."""
    return len(rules_of(book))


def pattern_of(book, state, name):
    """The state's pattern for the kind of this name."""
    names = [kind[0] for kind in ins_of(book)]
    return rules_of(book)[state][names.index(name)]
