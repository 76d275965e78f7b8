import copy
import unittest

from boughbook.counting import count_of, height_of
from boughbook.errors import Great
from boughbook.running import turned
from boughbook.sharing import shared, shared_row, unshared
from boughbook.trees import knots, tall
from tests.growing import (
    CLAWS, DOUBLE, EXAMPLE, KINDS, LAST, LEAF, MIRROR, SAME, TURNS, broad, call, chain, check_refused, giving, ladder,
    plainly_turned, some_books, spots, trees_of,
)


def done_in_order(tree):
    """What stands at each place, kids from left to right ahead of their knot."""
    return [part for kid in tree[1:] for part in done_in_order(kid)] + [tree]


def plain_row(tree):
    """The shared row straight by the document's words."""
    unlike = []
    for part in done_in_order(tree):
        if part not in unlike:
            unlike.append(part)
    row = tuple(part[:1] + tuple(unlike.index(kid) for kid in part[1:]) for part in unlike)
    return (row, unlike.index(tree))


def fork_rows(height):
    """The shared row of a tree so tall in which each fork has the same kid twice."""
    return ((LEAF,) + tuple(("fork", row, row) for row in range(height - 1)), height - 1)


class Rows(unittest.TestCase):
    def test_examples(self):
        self.assertEqual(shared_row(LEAF), ((LEAF,), 0))
        self.assertEqual(shared_row(EXAMPLE), ((LEAF, ("twig", 0), ("fork", 0, 1)), 2))
        mirrored = ("fork", ("twig", LEAF), LEAF)
        self.assertEqual(shared_row(mirrored), ((LEAF, ("twig", 0), ("fork", 1, 0)), 2))

    def test_a_tree_that_stands_in_several_places_has_one_entry(self):
        tree = ("fork", EXAMPLE, ("fork", EXAMPLE, EXAMPLE))
        row = (LEAF, ("twig", 0), ("fork", 0, 1), ("fork", 2, 2), ("fork", 2, 3))
        self.assertEqual(shared_row(tree), (row, 4))
        self.assertEqual(shared_row(ladder(11)), fork_rows(11))

    def test_the_order_of_the_entries(self):
        tree = ("claw", ("b", ("c",)), ("a",), ("b", ("a",)))
        self.assertEqual(shared_row(tree), ((("c",), ("b", 0), ("a",), ("b", 2), ("claw", 1, 2, 3)), 4))
        tree = ("fork", ("b", ("b", ("z",))), ("fork", ("y",), ("b", ("z",))))
        row = (("z",), ("b", 0), ("b", 1), ("y",), ("fork", 3, 1), ("fork", 2, 4))
        self.assertEqual(shared_row(tree), (row, 5))

    def test_by_the_documents_words(self):
        for tree in trees_of(KINDS, 7) + trees_of((("a", 0), ("b", 0), ("claw", 3)), 7):
            row, at = shared_row(tree)
            self.assertEqual((row, at), plain_row(tree))
            self.assertEqual(at, len(row) - 1)
            self.assertEqual(len(row), len(set(row)))
            self.assertEqual(len(row), len(set(spots(tree).values())))

    def test_kinds_of_what_is_told(self):
        for told in (shared_row(EXAMPLE), shared(MIRROR, EXAMPLE)):
            self.assertEqual([type(part) for part in told], [tuple, int])
            self.assertEqual({type(entry) for entry in told[0]}, {tuple})

    def test_unshared(self):
        for tree in trees_of(KINDS, 7) + [chain(150), broad(2500), chain(140, broad(2361)), ladder(11)]:
            self.assertEqual(unshared(shared_row(tree)), tree)

    def test_unshared_of_rows_by_hand(self):
        self.assertEqual(unshared(((LEAF,), 0)), LEAF)
        self.assertEqual(unshared(((("x",), ("y", 0), ("claw", 1, 0, 1)), 2)), ("claw", ("y", ("x",)), ("x",), ("y", ("x",))))
        self.assertEqual(unshared(fork_rows(11)), ladder(11))

    def test_great_trees(self):
        row, at = shared_row(chain(150))
        self.assertEqual((row[1:], at), (tuple(("twig", row) for row in range(149)), 149))
        for tree in (broad(2500), chain(140, broad(2361))):
            self.assertEqual(knots(tree), 2500)
            self.assertEqual(shared_row(tree), plain_row(tree))

    def test_great_trees_of_many_unlike_kids(self):
        kids = [chain(148, (letter,)) for letter in "abcdefghijklmnop"]
        tree = kids[0]
        for kid in kids[1:]:
            tree = ("fork", kid, tree)
        row, at = shared_row(tree)
        self.assertEqual((len(row), at), (16 * 148 + 15, 16 * 148 + 14))
        self.assertEqual(unshared((row, at)), tree)

    def test_what_is_handed_in_stays(self):
        pair = shared_row(EXAMPLE)
        before = copy.deepcopy(pair)
        unshared(pair)
        self.assertEqual(pair, before)
        self.assertEqual(shared_row(EXAMPLE), before)


class Shared(unittest.TestCase):
    def test_examples(self):
        self.assertEqual(shared(SAME, EXAMPLE), ((LEAF, ("twig", 0), ("fork", 0, 1)), 2))
        self.assertEqual(shared(MIRROR, EXAMPLE), ((LEAF, ("twig", 0), ("fork", 1, 0)), 2))
        self.assertEqual(shared(LAST, EXAMPLE), ((LEAF,), 0))
        self.assertEqual(shared(giving(EXAMPLE), LEAF), shared_row(EXAMPLE))
        self.assertEqual(shared(TURNS, EXAMPLE), plain_row(plainly_turned(TURNS, EXAMPLE)))

    def test_the_row_of_what_the_book_makes(self):
        for book in some_books(150, seed=41):
            for tree in trees_of(book[0], 5):
                made = plainly_turned(book, tree)
                if knots(made) <= 600:
                    self.assertEqual(shared(book, tree), plain_row(made))

    def test_held_against_turned(self):
        for book in (SAME, MIRROR, LAST, giving(EXAMPLE)):
            for tree in (("fork", chain(29), broad(370)), broad(400), chain(30)):
                made = turned(book, tree)
                self.assertEqual(shared(book, tree), shared_row(made))
                self.assertEqual(unshared(shared(book, tree)), made)

    def test_outcomes_of_very_many_knots(self):
        for height in (1, 2, 30, 150):
            self.assertEqual(shared(DOUBLE, chain(height)), fork_rows(height))
            self.assertEqual(shared(MIRROR, ladder(height)), fork_rows(height))

    def test_unlike_kids_in_an_outcome_of_very_many_knots(self):
        # Each twig makes a claw of what two states make of its kid.
        rules = ((LEAF, ("claw", call(1), call(0), call(1)), LEAF), (("twig", LEAF), ("fork", call(0), call(1)), LEAF))
        book = (KINDS, CLAWS, ("fork", call(1), call(0)), rules)
        row, at = shared(book, chain(100))
        self.assertGreater(count_of(book, chain(100)), 2 ** 100)
        self.assertEqual((len(row), at), (2 * 100 + 1, 2 * 100))
        for height in range(1, 9):
            self.assertEqual(shared(book, chain(height)), plain_row(plainly_turned(book, chain(height))))

    def test_just_150_and_151_tall(self):
        five = ("fork", LEAF, ("fork", call(0), ("fork", ("twig", call(0)), ("fork", call(0), ("twig", call(0))))))
        rules = ((LEAF, five, LEAF),)
        self.assertEqual(tall(five), 6)
        for more, right in ((4, True), (5, True), (6, False), (50, False)):
            book = (KINDS, KINDS, chain(more, call(0)), rules)
            self.assertEqual(height_of(book, chain(30)), 5 * 29 + more)
            self.assertGreater(count_of(book, chain(30)), 10 ** 16)
            if right:
                row, at = shared(book, chain(30))
                self.assertEqual(at, len(row) - 1)
                self.assertEqual(len(row), len(set(row)))
            else:
                check_refused(self, Great, shared, book, chain(30))

    def test_just_150_and_151_tall_of_few_knots(self):
        self.assertEqual(shared(SAME, chain(150)), shared_row(chain(150)))
        check_refused(self, Great, shared, SAME, chain(151))
        check_refused(self, Great, shared, SAME, ("fork", LEAF, chain(150)))
        check_refused(self, Great, shared, DOUBLE, chain(5000))

    def test_more_than_2000_knots_are_not_refused(self):
        for parts in (2000, 2001, 2500, 5000):
            self.assertEqual(shared(SAME, broad(parts)), shared_row(broad(parts)))

    def test_what_is_handed_in_stays(self):
        for book in some_books(20, seed=42):
            tree = trees_of(book[0], 4)[-1]
            before = copy.deepcopy((book, tree))
            told = shared(book, tree)
            self.assertEqual((book, tree), before)
            self.assertEqual(shared(book, tree), told)
