import random
import unittest

from boughbook.books import made_book, pattern_of, states_of
from boughbook.earliest import earliest
from boughbook.errors import BookError, Great, Many
from boughbook.fronts import fronts_of
from boughbook.joining import joined, same_book
from boughbook.patterns import calls_in, holes_in, knots_of, tall_of
from boughbook.running import turned
from boughbook.trees import knot_at
from tests.growing import (
    DOUBLE, EXAMPLE, KINDS, LAST, LEAF, MIRROR, SAME, TURNS, broad, call, chain, check_refused, forked, giving,
    plainly_numbered, plainly_turned, some_book, some_books, trees_of,
)

HOLE = ("*",)
EIGHT = tuple((letter, number % 4) for number, letter in enumerate("abcdefgh"))


def plainly_written(pattern, fronts):
    """The pattern written early, straight by the document's words; calls name pairs (state, hole)."""
    if pattern[0] == "?":
        holes = holes_in(fronts[pattern[1]])
        return with_calls(fronts[pattern[1]], (), holes, pattern)
    return pattern[:1] + tuple(plainly_written(part, fronts) for part in pattern[1:])


def with_calls(part, place, holes, pattern):
    if part == HOLE:
        return ("?", (pattern[1], holes.index(place)), pattern[2])
    kids = enumerate(part[1:])
    return part[:1] + tuple(with_calls(kid, place + (number,), holes, pattern) for number, kid in kids)


def plainly_earliest(book):
    fronts = fronts_of(book)

    def patterns_of(pair):
        state, hole = pair
        place = holes_in(fronts[state])[hole]
        return [knot_at(plainly_written(pattern, fronts), place) for pattern in book[3][state]]

    return plainly_numbered(book[0], book[1], plainly_written(book[2], fronts), patterns_of)


def with_head(head):
    """A book whose state 0 always makes a tree of 200 knots, state 1 a twig above something, state 2 two somethings."""
    rules = (
        (broad(200),) * 3,
        (("twig", LEAF), ("twig", EXAMPLE), ("twig", LEAF)),
        (("fork", LEAF, LEAF), ("fork", EXAMPLE, EXAMPLE), ("fork", LEAF, LEAF)),
        (LEAF, LEAF, EXAMPLE),
        (chain(10),) * 3,
    )
    return (KINDS, KINDS, head, rules)


def with_rule(pattern):
    """Such a book with a state 5, of which nothing is sure, that has the pattern for a twig."""
    book = with_head(call(5))
    return book[:3] + (book[3] + ((("twig", ("twig", LEAF)), pattern, LEAF),),)


class Earliest(unittest.TestCase):
    def check_earliest(self, book, most=4):
        told = earliest(book)
        self.assertEqual(told, plainly_earliest(book))
        self.assertEqual(made_book(*told), told)
        self.assertEqual(told[:2], book[:2])
        self.assertEqual(fronts_of(told), [HOLE] * states_of(told))
        self.assertEqual(earliest(told), told)
        for tree in trees_of(book[0], most):
            self.assertEqual(plainly_turned(told, tree), plainly_turned(book, tree))
        return told

    def test_examples(self):
        for book in (SAME, MIRROR, DOUBLE):
            self.assertEqual(earliest(book), book)
        self.assertEqual(earliest(LAST), (KINDS, KINDS, LEAF, ()))
        self.assertEqual(self.check_earliest(TURNS)[2], ("fork", call(0), ("twig", call(1))))

    def test_a_knot_is_written_as_soon_as_it_is_sure(self):
        # The state 0 writes a twig above what the state 1 makes; so the head may write the twig.
        book = (KINDS, KINDS, call(0), (
            (("twig", LEAF), ("twig", call(1)), ("twig", call(0, 1))),
            (EXAMPLE, call(1), LEAF),
        ))
        self.assertEqual(fronts_of(book), [("twig", HOLE), HOLE])
        self.assertEqual(self.check_earliest(book, 6), (KINDS, KINDS, ("twig", call(0)), (
            (LEAF, call(1), ("twig", call(0, 1))),
            (EXAMPLE, call(1), LEAF),
        )))

    def test_several_holes_and_their_numbers(self):
        # The state 0 makes a fork, both kids of which are unsure; the head calls it twice.
        book = (KINDS, KINDS, ("fork", call(1), call(0)), (
            (("fork", LEAF, EXAMPLE), ("fork", EXAMPLE, LEAF), ("fork", call(1, 1), call(0))),
            (LEAF, call(1), call(0)),
        ))
        self.assertEqual(fronts_of(book), [("fork", HOLE, HOLE), HOLE])
        # (1, 0), (0, 0), (0, 1).
        self.assertEqual(self.check_earliest(book, 6), (KINDS, KINDS, ("fork", call(0), ("fork", call(1), call(2))), (
            (LEAF, call(0), ("fork", call(1), call(2))),
            (LEAF, EXAMPLE, call(0, 1)),
            (EXAMPLE, LEAF, ("fork", call(1), call(2))),
        )))

    def test_by_the_documents_words(self):
        changed = 0
        for book in some_books(400, seed=81):
            changed += self.check_earliest(book) != book
        self.assertGreater(changed, 200)

    def test_of_one_ins_kind_many_books(self):
        source = random.Random(82)
        outs = (("x", 0), ("y", 2), ("z", 1))
        for _ in range(200):
            self.check_earliest(some_book(source, (("a", 0), ("b", 1), ("c", 0)), outs, 5, 9))

    def test_a_book_of_no_states(self):
        self.assertEqual(earliest(giving(EXAMPLE)), giving(EXAMPLE))
        self.assertEqual(earliest((KINDS, KINDS, LEAF, SAME[3])), (KINDS, KINDS, LEAF, ()))

    def test_states_that_always_make_the_same_vanish(self):
        book = (KINDS, KINDS, ("fork", call(0), call(1)), ((EXAMPLE, call(0), call(0, 1)), SAME[3][0]))
        same = (LEAF, ("twig", call(1)), ("fork", call(1), call(1, 1)))
        told = self.check_earliest(book[:3] + ((book[3][0], same),))
        self.assertEqual(told, (KINDS, KINDS, ("fork", EXAMPLE, call(0)), SAME[3]))

    def test_a_state_that_nobody_calls(self):
        rules = ((LEAF, LEAF, EXAMPLE), (LEAF, ("twig", call(1)), ("fork", call(1), call(1, 1))))
        book = (KINDS, KINDS, call(1), rules)
        self.assertEqual(self.check_earliest(book), SAME)

    def test_one_kind_and_eight(self):
        one = ((("x", 0),), KINDS, ("twig", call(0)), ((EXAMPLE,),))
        self.assertEqual(earliest(one), (one[0], KINDS, ("twig", EXAMPLE), ()))
        self.assertEqual(earliest(same_book(EIGHT)), same_book(EIGHT))
        flat = (EIGHT, EIGHT, ("b", call(0)), ((("b", ("a",)),) * 7 + (("b", call(0, 2)),),))
        self.check_earliest(flat, 3)

    def test_of_joined_books(self):
        for first in (MIRROR, LAST, DOUBLE, TURNS):
            for second in (MIRROR, LAST, DOUBLE, TURNS):
                self.check_earliest(joined(first, second))

    def test_a_great_book(self):
        head = forked([call(state) for state in range(20)])
        rules = tuple((LEAF, ("twig", call((state + 1) % 20)), forked([call(state, 1)] * 200)) for state in range(20))
        book = (KINDS, KINDS, head, rules)
        self.assertEqual(earliest(book), book)
        self.assertEqual(turned(earliest(book), chain(30)), turned(book, chain(30)))

    def test_nothing_is_changed(self):
        for book in some_books(20, seed=83):
            before = repr(book)
            self.assertEqual(earliest(book), earliest(book))
            self.assertEqual(repr(book), before)


class Refused(unittest.TestCase):
    def check_edge(self, fitting, over, measure, bound):
        """Patterns that are just small enough and too great when they are written early, in head and state."""
        for make in (with_head, with_rule):
            told = earliest(make(fitting))
            self.assertEqual(told, plainly_earliest(make(fitting)))
            self.assertEqual(measure(told[2] if make == with_head else pattern_of(told, 0, "twig")), bound)
            check_refused(self, Great, earliest, make(over))

    def test_400_and_401_knots(self):
        self.check_edge(("fork", broad(199), call(0)), ("fork", broad(200), call(0)), knots_of, 400)
        self.check_edge(("fork", call(0), broad(199)), ("fork", call(0), broad(200)), knots_of, 400)
        self.check_edge(chain(2, ("fork", call(0), broad(198))), chain(2, ("fork", call(0), broad(199))), knots_of, 400)

    def test_200_and_201_calls(self):
        twos = [call(2)] * 100
        self.check_edge(forked(twos), forked(twos + [call(1)]), lambda pattern: len(calls_in(pattern)), 200)
        self.check_edge(forked([call(3)] + twos[1:] + [call(3)]), forked([call(3)] + twos),
                        lambda pattern: len(calls_in(pattern)), 200)

    def test_20_and_21_tall(self):
        self.check_edge(chain(11, call(4)), chain(12, call(4)), tall_of, 20)
        # A call is one row, too.
        self.check_edge(chain(19, call(1)), chain(20, call(1)), tall_of, 20)
        self.check_edge(chain(20, call(3)), chain(20, call(1)), tall_of, 20)

    def test_20_and_21_states(self):
        for holes in (1, 19, 20, 21, 40):
            one, two = forked([LEAF] * holes), forked([EXAMPLE] * holes)
            book = (KINDS, KINDS, call(0), ((one, two, one),))
            if holes <= 20:
                self.assertEqual(states_of(earliest(book)), holes)
            else:
                check_refused(self, Many, earliest, book)

    def test_states_that_come_late(self):
        # Two states that are called by turns, each with ten or eleven holes.
        for holes in (10, 11):
            one, two = forked([LEAF] * holes), forked([EXAMPLE] * holes)
            book = (KINDS, KINDS, call(0), ((one, two, call(1)), (one, two, call(0))))
            if holes == 10:
                self.assertEqual(states_of(earliest(book)), 20)
            else:
                check_refused(self, Many, earliest, book)

    def test_holes_that_nobody_calls_do_not_count(self):
        # The state 1 has 30 holes, but is called only where nothing calls on.
        one, two = forked([LEAF] * 30), forked([EXAMPLE] * 30)
        uncalled = (KINDS, KINDS, call(0), (SAME[3][0], (one, two, one)))
        self.assertEqual(earliest(uncalled), SAME)
        # Of the state 0 the head writes the twig, and one state alone remains.
        great = (KINDS, KINDS, call(0), (SAME[3][0], (chain(20), forked([call(1)] * 200), chain(20, call(1)))))
        self.assertEqual(earliest(great), SAME)

    def test_far_too_great_in_a_moment(self):
        whole = forked([LEAF] * 200)
        rules = ((whole, whole, whole), (forked([EXAMPLE] * 100), LEAF, forked([call(0)] * 200)))
        check_refused(self, Great, earliest, (KINDS, KINDS, forked([call(0)] * 200), rules))
        check_refused(self, Great, earliest, (KINDS, KINDS, call(1), rules))

    def test_both_are_due(self):
        one, two = forked([LEAF] * 40), forked([EXAMPLE] * 40)
        book = (KINDS, KINDS, forked([call(0)] * 200), ((one, two, one),))
        with self.assertRaises(BookError) as caught:
            earliest(book)
        self.assertIn(caught.exception.__class__, (Great, Many))
