import unittest

from boughbook.books import made_book
from boughbook.errors import Great
from boughbook.running import turned, turned_by
from boughbook.trees import fits, knots, tall
from tests.growing import (
    CLAWS, DOUBLE, EXAMPLE, KINDS, LAST, LEAF, MIRROR, SAME, TURNS, broad, call, chain, check_refused, forked, giving,
    ladder, plainly_turned, plainly_turned_by, some_books, trees_of,
)

def hung_on(head, tree):
    """A book that turns a leaf into its head with each call replaced by the tree."""
    return made_book(KINDS, KINDS, head, [[tree, LEAF, LEAF]])


class Turned(unittest.TestCase):
    def test_examples(self):
        self.assertEqual(turned(SAME, EXAMPLE), EXAMPLE)
        self.assertEqual(turned(MIRROR, EXAMPLE), ("fork", ("twig", LEAF), LEAF))
        self.assertEqual(turned(LAST, EXAMPLE), LEAF)
        self.assertEqual(turned(DOUBLE, EXAMPLE), ("fork", LEAF, ("fork", LEAF, LEAF)))

    def test_states_by_turns_and_a_head_with_several_calls(self):
        one = ("twig", ("fork", ("twig", LEAF), LEAF))
        self.assertEqual(turned_by(TURNS, 0, LEAF), ("twig", LEAF))
        self.assertEqual(turned_by(TURNS, 1, LEAF), LEAF)
        self.assertEqual(turned_by(TURNS, 0, ("twig", LEAF)), LEAF)
        self.assertEqual(turned_by(TURNS, 1, ("twig", LEAF)), ("fork", ("twig", LEAF), LEAF))
        self.assertEqual(turned_by(TURNS, 1, EXAMPLE), ("twig", LEAF))
        nought = ("fork", ("fork", ("twig", LEAF), LEAF), ("twig", ("twig", LEAF)))
        self.assertEqual(turned_by(TURNS, 0, EXAMPLE), nought)
        self.assertEqual(turned(TURNS, EXAMPLE), ("fork", ("twig", LEAF), ("twig", nought)))
        self.assertEqual(turned_by(TURNS, 1, ("fork", LEAF, ("fork", LEAF, ("twig", LEAF))))[1][0], "fork")
        self.assertNotEqual(turned(TURNS, one), turned_by(TURNS, 0, one))

    def test_a_head_without_calls(self):
        for tree in (LEAF, EXAMPLE, chain(30)):
            self.assertEqual(turned(giving(EXAMPLE), tree), EXAMPLE)
            self.assertEqual(turned((KINDS, KINDS, EXAMPLE, SAME[3]), tree), EXAMPLE)

    def test_a_head_that_calls_several_states(self):
        book = (KINDS, KINDS, ("fork", call(1), call(0)), (SAME[3][0], LAST[3][0][:1] + (call(1), call(1, 1))))
        self.assertEqual(turned(book, EXAMPLE), ("fork", LEAF, EXAMPLE))
        self.assertEqual(turned_by(book, 0, EXAMPLE), EXAMPLE)
        self.assertEqual(turned_by(book, 1, EXAMPLE), LEAF)

    def test_by_the_documents_words(self):
        met = 0
        for book in some_books(150, seed=11):
            for tree in trees_of(book[0], 5):
                plain = plainly_turned(book, tree)
                if knots(plain) <= 2000:
                    self.assertEqual(turned(book, tree), plain)
                    met += 1
                for state in range(len(book[3])):
                    self.assertEqual(turned_by(book, state, tree), plainly_turned_by(book, state, tree))
        self.assertGreater(met, 1000)

    def test_the_outcome_is_a_tree_over_outs(self):
        for book in some_books(60, seed=12):
            for tree in trees_of(book[0], 4):
                self.assertIs(fits(book[1], turned(book, tree)), True)

    def test_one_kind_and_eight_kinds(self):
        eight = tuple((letter, number % 4) for number, letter in enumerate("abcdefgh"))
        knot = tuple((name,) + tuple(call(0, kid) for kid in range(many)) for name, many in eight)
        tree = ("d", ("a",), ("b", ("e",)), ("h", ("c", ("e",), ("a",)), ("f", ("a",)), ("g", ("a",), ("e",))))
        self.assertEqual(turned((eight, eight, call(0), (knot,)), tree), tree)
        self.assertEqual(turned((eight, (("x", 0),), call(0), ((("x",),) * 8,)), tree), ("x",))
        self.assertEqual(turned(((("x", 0),), eight, call(0), ((tree,),)), ("x",)), tree)

    def test_great_trees(self):
        tree = ("fork", chain(29), broad(370))
        self.assertEqual((knots(tree), tall(tree)), (400, 30))
        self.assertEqual(turned(SAME, tree), tree)
        self.assertEqual(turned(MIRROR, turned(MIRROR, tree)), tree)

    def test_trees_beyond_their_bounds_are_not_refused(self):
        for tree in (chain(31), chain(150), broad(401), broad(2000), chain(140, broad(1861))):
            self.assertEqual(turned(SAME, tree), tree)

    def test_a_walk_deeper_than_a_recursion_may_be(self):
        self.assertEqual(turned(LAST, chain(5000)), LEAF)
        self.assertEqual(turned_by(LAST, 0, chain(5000)), LEAF)

    def test_trees_of_very_many_knots(self):
        self.assertEqual(turned(LAST, ladder(30)), LEAF)
        self.assertEqual(turned_by(LAST, 0, ladder(600)), LEAF)
        left = (CLAWS, KINDS, call(0), ((LEAF, LEAF, LEAF, ("twig", call(0, 1))),))
        self.assertEqual(turned(left, ladder(30, "claw", 3)), chain(30))


class TooGreat(unittest.TestCase):
    def check_great(self, book, tree):
        check_refused(self, Great, turned, book, tree)

    def test_just_2000_and_2001_knots(self):
        for tree in (broad(1999), broad(2000)):
            self.assertEqual(turned(SAME, tree), tree)
            self.assertEqual(turned_by(SAME, 0, tree), tree)
        for tree in (broad(2001), broad(2002)):
            self.check_great(SAME, tree)
            check_refused(self, Great, turned_by, SAME, 0, tree)

    def test_just_2000_and_2001_knots_of_a_small_tree(self):
        # 10 calls of a pattern of 198 knots, and 20 or 21 knots around them.
        top = forked([call(0)] * 10)
        for more, right in ((20, True), (21, False)):
            around = chain(more - 8, top)
            book = hung_on(around, broad(198))
            self.assertEqual(knots(plainly_turned(book, LEAF)), 1980 + more)
            if right:
                self.assertEqual(turned(book, LEAF), plainly_turned(book, LEAF))
            else:
                self.check_great(book, LEAF)

    def test_just_150_and_151_tall(self):
        for tree in (chain(149), chain(150), ("fork", LEAF, chain(149)), ("fork", chain(149), LEAF)):
            self.assertEqual(turned(SAME, tree), tree)
            self.assertEqual(turned_by(SAME, 0, tree), tree)
        for tree in (chain(151), chain(152), ("fork", LEAF, chain(150)), ("fork", chain(150), LEAF)):
            self.check_great(SAME, tree)
            check_refused(self, Great, turned_by, SAME, 0, tree)

    def test_just_150_and_151_tall_of_a_small_tree(self):
        tenfold = (KINDS, KINDS, call(0), ((chain(10), chain(11, call(0)), LEAF),))
        self.assertEqual(turned(tenfold, chain(15)), chain(150))
        self.check_great((KINDS, KINDS, ("twig", call(0)), tenfold[3]), chain(15))
        self.check_great(tenfold, chain(16))

    def test_both_bounds_at_once(self):
        tree = chain(140, broad(1861))
        self.assertEqual((knots(tree), tall(tree)), (2000, 150))
        self.assertEqual(turned(MIRROR, tree), plainly_turned(MIRROR, tree))
        self.check_great(SAME, chain(140, broad(1862)))
        self.check_great(SAME, chain(141, broad(1860)))

    def test_the_state_alone_may_be_small_enough(self):
        book = (KINDS, KINDS, ("twig", call(0)), SAME[3])
        self.assertEqual(turned_by(book, 0, chain(150)), chain(150))
        self.check_great(book, chain(150))
        twice = (KINDS, KINDS, ("fork", call(0), call(0)), SAME[3])
        self.assertEqual(turned_by(twice, 0, broad(1000)), broad(1000))
        self.check_great(twice, broad(1000))
        self.assertEqual(knots(turned(twice, broad(999))), 1999)

    def test_far_too_great(self):
        self.check_great(DOUBLE, chain(30))
        check_refused(self, Great, turned_by, DOUBLE, 0, chain(30))
        self.check_great(SAME, ladder(30))
        self.check_great(MIRROR, ladder(600))
        hundreds = forked([call(0)] * 200)
        self.check_great((KINDS, KINDS, hundreds, ((LEAF, hundreds, LEAF),)), chain(30))
        self.check_great(SAME, chain(5000))
