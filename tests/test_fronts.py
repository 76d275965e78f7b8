import unittest

from boughbook.fronts import fronts_of, partings_of
from boughbook.patterns import common, holes_in, knots_of, lies_on, tall_of
from boughbook.peeking import peeked_by
from boughbook.trees import fits, knots, tall
from tests.growing import (
    CLAWS, DOUBLE, EXAMPLE, KINDS, LAST, LEAF, MIRROR, SAME, TURNS, broad, call, chain, forked, giving,
    plainly_turned_by, some_books, trees_of,
)

HOLE = ("*",)
TWO = (("b", 1), ("a", 0))
EIGHT = tuple((letter, number % 4) for number, letter in enumerate("abcdefgh"))


def comb(teeth, last):
    """So many forks, each but the first the second kid of the one above."""
    thing = last
    for _ in range(teeth):
        thing = ("fork", LEAF, thing)
    return thing


def ring_book(ins, states=20):
    """States that lead to one another; holes come round the ring, one row further down each time.

    The state 0 alone tells a leaf from a bud, at the end of its first fork.
    """
    whole = comb(19, LEAF)
    rules = []
    for state in range(states):
        patterns = [whole] * len(ins)
        if state == 0:
            patterns[1] = ("fork", ("bud",), comb(18, LEAF))
            patterns[2] = ("fork", LEAF, call(states - 1, ins[2][1] - 1))
        else:
            patterns[2] = call(state - 1, ins[2][1] - 1)
        rules.append(tuple(patterns))
    return (ins, KINDS + (("bud", 0),), LEAF, tuple(rules))


class Fronts(unittest.TestCase):
    def check_fronts(self, book, most):
        """Each front lies on what its state makes of all small trees, and trees part at each of its holes."""
        fronts = fronts_of(book)
        partings = partings_of(book)
        self.assertEqual((len(fronts), len(partings)), (len(book[3]), len(book[3])))
        exact = 0
        for state, front in enumerate(fronts):
            made = [plainly_turned_by(book, state, tree) for tree in trees_of(book[0], most)]
            shared = made[0]
            for each in made:
                self.assertIs(lies_on(front, each), True)
                shared = common(shared, each)
            exact += shared == front
            self.check_partings(book, state, front, partings[state])
        return exact

    def check_partings(self, book, state, front, pairs):
        self.assertIsInstance(pairs, list)
        for place, pair in zip(holes_in(front), pairs, strict=True):
            self.assertIsInstance(pair, tuple)
            one, two = pair
            self.assertNotEqual(peeked_by(book, state, one, place), peeked_by(book, state, two, place))
            for tree in pair:
                self.assertIs(fits(book[0], tree), True)
                self.assertLessEqual(tall(tree), 600)
                self.assertLessEqual(knots(tree), 2000)

    def test_examples(self):
        for book in (SAME, MIRROR, DOUBLE, TURNS):
            self.assertEqual(fronts_of(book), [HOLE] * len(book[3]))
            self.check_fronts(book, 5)
        self.assertEqual(fronts_of(LAST), [LEAF])
        self.assertEqual(partings_of(LAST), [[]])

    def test_a_book_of_no_states(self):
        self.assertEqual(fronts_of(giving(EXAMPLE)), [])
        self.assertEqual(partings_of(giving(EXAMPLE)), [])

    def test_against_all_small_trees(self):
        states = 0
        exact = 0
        holes = 0
        for book in some_books(300, seed=71):
            states += len(book[3])
            exact += self.check_fronts(book, 5)
            holes += sum(knots_of(front) > 0 and front != HOLE for front in fronts_of(book))
        # Of few states the front is told by greater trees alone.
        self.assertGreater(exact, states - 20)
        self.assertGreater(holes, 50)

    def test_a_state_that_makes_the_same_of_every_tree(self):
        book = (KINDS, KINDS, LEAF, ((EXAMPLE, EXAMPLE, EXAMPLE), (LEAF, call(1), call(1, 1))))
        self.assertEqual(fronts_of(book), [EXAMPLE, LEAF])
        self.assertEqual(partings_of(book), [[], []])

    def test_the_same_made_in_parts(self):
        # The leaf's pattern writes all at once what the other ones write by and by.
        book = (KINDS, KINDS, LEAF, (
            (("fork", ("twig", LEAF), LEAF), ("fork", ("twig", call(1)), LEAF), ("fork", call(2, 1), call(1))),
            (LEAF, call(1), call(1)),
            (("twig", LEAF), call(2), ("twig", call(1, 1))),
        ))
        self.assertEqual(fronts_of(book), [("fork", ("twig", LEAF), LEAF), LEAF, ("twig", LEAF)])

    def test_a_front_with_several_holes(self):
        # At the second kid stands what the state 1 makes, which is a twig above something.
        book = (KINDS, KINDS, LEAF, (
            (
                ("fork", LEAF, ("twig", LEAF)), ("fork", ("twig", LEAF), call(1)),
                ("fork", call(0), ("twig", call(0, 1))),
            ),
            (("twig", LEAF), ("twig", EXAMPLE), call(1, 1)),
        ))
        self.assertEqual(fronts_of(book), [("fork", HOLE, ("twig", HOLE)), ("twig", HOLE)])
        self.check_fronts(book, 6)

    def test_kinds_without_kids_that_part(self):
        kinds = (("x", 0), ("y", 0), ("z", 0))
        rules = ((("fork", LEAF, LEAF), ("fork", LEAF, ("twig", LEAF)), ("fork", LEAF, LEAF)), (LEAF, LEAF, LEAF))
        book = (kinds, KINDS, LEAF, rules)
        self.assertEqual(fronts_of(book), [("fork", LEAF, HOLE), LEAF])
        (pairs, none) = partings_of(book)
        self.assertEqual(none, [])
        self.assertEqual(sorted(pairs[0])[1], ("y",))

    def test_a_hole_above_a_hole_that_was_met_before(self):
        # The kind b parts at the second kid, the kind c above it.
        kinds = (("a", 0), ("b", 0), ("c", 0))
        one, two = ("fork", LEAF, LEAF), ("fork", LEAF, ("twig", LEAF))
        for patterns in ((one, two, LEAF), (one, LEAF, two), (LEAF, one, two)):
            book = (kinds, KINDS, LEAF, (patterns,))
            self.assertEqual(fronts_of(book), [HOLE])
            self.check_fronts(book, 1)

    def test_a_hole_that_comes_from_a_state_that_comes_later(self):
        rules = [(EXAMPLE, call(state + 1), EXAMPLE) for state in range(18)]
        rules.append((EXAMPLE, ("fork", call(19), ("twig", LEAF)), EXAMPLE))
        rules.append((LEAF, LEAF, ("twig", LEAF)))
        book = (KINDS, KINDS, LEAF, tuple(rules))
        self.assertEqual(fronts_of(book), [("fork", HOLE, ("twig", LEAF))] * 19 + [HOLE])
        self.check_fronts(book, 4)
        # It takes 19 twigs to come there from the state 0.
        self.assertGreaterEqual(min(tall(tree) for tree in partings_of(book)[0][0]), 20)

    def test_states_that_call_only_one_another(self):
        ins = (("a", 0), ("b", 0), ("c", 3), ("d", 3))
        for states in (1, 2, 5, 20):
            book = ring_book(ins, states)
            wished = comb(19, LEAF)
            self.assertEqual(fronts_of(book), [cut_teeth(wished)] * states)
            partings = partings_of(book)
            for state in range(states):
                self.check_partings(book, state, cut_teeth(wished), partings[state])
        # A hole comes round the ring of 20 states 18 times until it is at the lowest tooth.
        self.assertGreater(max(tall(tree) for pair in partings[19] for tree in pair), 370)

    def test_states_that_call_only_one_another_and_make_the_same(self):
        rules = tuple((EXAMPLE, call((state + 1) % 20), call((state + 7) % 20, 1)) for state in range(20))
        self.assertEqual(fronts_of((KINDS, KINDS, LEAF, rules)), [EXAMPLE] * 20)

    def test_a_state_that_nobody_calls(self):
        book = (KINDS, KINDS, call(0), (SAME[3][0], (LEAF, LEAF, LEAF), (("twig", LEAF), ("twig", call(0)), LEAF)))
        self.assertEqual(fronts_of(book), [HOLE, LEAF, HOLE])
        self.check_fronts(book, 4)

    def test_a_state_that_calls_itself_below_what_it_writes(self):
        # What it makes of each tree is taller than its front can tell.
        book = (KINDS, KINDS, LEAF, ((chain(20), ("twig", call(0)), call(0)),))
        self.assertEqual(fronts_of(book), [chain(20, HOLE)])
        self.check_fronts(book, 5)

    def test_deep_fronts(self):
        rules = ((chain(20), chain(20), chain(19, ("fork", LEAF, call(0)))), (broad(399), broad(400), broad(399)))
        fronts = fronts_of((KINDS, KINDS, LEAF, rules))
        self.assertEqual(fronts[0], chain(19, HOLE))
        self.assertEqual(fronts[1], common(broad(399), broad(400)))
        self.assertEqual(fronts_of((KINDS, KINDS, LEAF, ((chain(20),) * 3,))), [chain(20)])

    def test_one_kind_and_eight(self):
        one = ((("x", 0),), KINDS, call(0), ((EXAMPLE,), (LEAF,)))
        self.assertEqual((fronts_of(one), partings_of(one)), ([EXAMPLE, LEAF], [[], []]))
        same = tuple((name,) + tuple(call(0, kid) for kid in range(many)) for name, many in EIGHT)
        book = (EIGHT, EIGHT, call(0), (same, (("b", ("a",)),) * 7 + (("b", call(0, 2)),)))
        self.assertEqual(fronts_of(book), [HOLE, ("b", HOLE)])
        self.check_fronts(book, 3)
        small_last = (TWO[:1] + EIGHT[1:4] + TWO[1:], CLAWS, LEAF, ((chain(2),) * 4 + (LEAF,),))
        self.assertEqual(fronts_of(small_last), [HOLE])
        self.check_fronts(small_last, 3)

    def test_the_greatest_books_in_a_moment(self):
        ins = (("leaf", 0), ("bud", 0)) + tuple((letter, 3) for letter in "abcdef")
        whole = forked([LEAF] * 200)
        rules = []
        for state in range(20):
            calls = [forked([call((state * 7 + at) % 20, at % 3) for at in range(200)]) for _ in range(6)]
            rules.append((whole, whole) + tuple(calls))
        book = (ins, CLAWS, LEAF, tuple(rules))
        fronts = fronts_of(book)
        self.assertEqual(len(holes_in(fronts[0])), 200)
        self.assertEqual(max(tall_of(front) for front in fronts), 9)
        for state, pairs in enumerate(partings_of(book)):
            self.check_partings(book, state, fronts[state], pairs)

    def test_what_is_told_is_the_askers_own(self):
        book = (KINDS, KINDS, call(0), (SAME[3][0], (LEAF, LEAF, LEAF)))
        before = repr(book)
        fronts = fronts_of(book)
        partings = partings_of(book)
        kept = (list(fronts), [list(pairs) for pairs in partings])
        fronts.clear()
        partings[0].clear()
        partings.pop()
        self.assertEqual((fronts_of(book), partings_of(book)), kept)
        self.assertEqual(repr(book), before)


def cut_teeth(front):
    """The comb with a hole in the place of each leaf; at its end there may be one more tooth."""
    if front == LEAF:
        return HOLE
    return ("fork", HOLE, cut_teeth(front[2]))
