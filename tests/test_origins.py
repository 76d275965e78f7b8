import unittest

from boughbook.errors import NoPlace
from boughbook.origins import origin_at
from boughbook.peeking import peeked
from tests.growing import (
    CLAWS, DOUBLE, EXAMPLE, KINDS, LAST, LEAF, MIRROR, SAME, TURNS, broad, call, chain, check_refused, giving, ladder,
    plainly_turned, some_books, spots, trees_of,
)

GREAT_NUMBERS = [10 ** 30, -10 ** 30, 2 ** 63, -2 ** 63, 2 ** 64, 10 ** 5000, -10 ** 5000]


def plain_origins(book, part, tree, origin):
    """A tree like what comes of the part, with the origin of each knot in the place of its name.

    The tree is the one whose pattern the part is of, None for the head.
    """
    if part[0] == "?":
        kid = book_tree(tree, part[2])
        names = [name for name, _ in book[0]]
        pattern = book[3][part[1]][names.index(kid[0])]
        place = () if origin[0] < 0 else origin[1] + (part[2],)
        return plain_origins(book, pattern, kid, (part[1], place))
    return (origin,) + tuple(plain_origins(book, kid, tree, origin) for kid in part[1:])


def book_tree(tree, kid):
    """The kid that is handed on; a list holds the whole tree for the head."""
    return tree[0] if isinstance(tree, list) else tree[kid + 1]


def origins_by_place(book, tree):
    marked = plain_origins(book, book[2], [tree], (-1, ()))
    return {place: part[0] for place, part in spots(marked).items()}


class Origins(unittest.TestCase):
    def check_no_place(self, book, tree, place):
        check_refused(self, NoPlace, origin_at, book, tree, place)

    def check_all(self, book, tree):
        wished = origins_by_place(book, tree)
        self.assertEqual(set(wished), set(spots(plainly_turned(book, tree))))
        for place, origin in wished.items():
            self.assertEqual(origin_at(book, tree, place), origin)

    def test_examples(self):
        self.assertEqual(origin_at(MIRROR, EXAMPLE, ()), (0, ()))
        self.assertEqual(origin_at(MIRROR, EXAMPLE, (0,)), (0, (1,)))
        self.assertEqual(origin_at(MIRROR, EXAMPLE, (0, 0)), (0, (1, 0)))
        self.assertEqual(origin_at(MIRROR, EXAMPLE, (1,)), (0, (0,)))
        # The one leaf that comes is written of the last leaf of the tree.
        self.assertEqual(origin_at(LAST, EXAMPLE, ()), (0, (1, 0)))
        self.assertEqual(origin_at(giving(EXAMPLE), LEAF, (1, 0)), (-1, ()))
        self.assertEqual(origin_at(TURNS, EXAMPLE, ()), (-1, ()))
        self.assertEqual(origin_at(TURNS, EXAMPLE, (1,)), (-1, ()))
        self.assertEqual(origin_at(TURNS, EXAMPLE, (0,)), (1, ()))
        self.assertEqual(origin_at(TURNS, EXAMPLE, (0, 0)), (1, (1, 0)))
        self.assertEqual(origin_at(TURNS, EXAMPLE, (1, 0, 1)), (0, ()))
        self.assertEqual(origin_at(TURNS, EXAMPLE, (1, 0, 1, 0)), (0, (0,)))

    def test_each_place_by_the_documents_words(self):
        for book in some_books(150, seed=121):
            for tree in trees_of(book[0], 4):
                self.check_all(book, tree)

    def test_states_known(self):
        for book in (SAME, MIRROR, LAST, DOUBLE, TURNS, giving(EXAMPLE)):
            for tree in trees_of(KINDS, 6):
                self.check_all(book, tree)

    def test_great_trees(self):
        for tree in (("fork", chain(29), broad(370)), broad(400), chain(30)):
            for book in (MIRROR, LAST):
                self.check_all(book, tree)

    def test_which_state_of_several(self):
        # Both states make leaves of leaves, and of twigs each what the other one makes.
        rules = ((LEAF, call(1), LEAF), (LEAF, ("twig", call(0)), LEAF))
        book = (KINDS, KINDS, ("fork", call(0), ("twig", call(1))), rules)
        for height in range(1, 8):
            tree = chain(height)
            self.check_all(book, tree)
        self.assertEqual(origin_at(book, chain(3), (0,)), (1, (0,)))
        self.assertEqual(origin_at(book, chain(3), (0, 0)), (0, (0, 0)))
        self.assertEqual(origin_at(book, chain(2), (0,)), (1, (0,)))
        self.assertEqual(origin_at(book, LEAF, (0,)), (0, ()))

    def test_places_that_the_outcome_has_not(self):
        for book in some_books(30, seed=122):
            for tree in trees_of(book[0], 3):
                for place, part in spots(plainly_turned(book, tree)).items():
                    kids = len(part) - 1
                    for number in [kids, kids + 1, -1, -kids, -kids - 1] + GREAT_NUMBERS:
                        if not 0 <= number < kids:
                            self.check_no_place(book, tree, place + (number,))
                            self.check_no_place(book, tree, place + (number, 0))

    def test_refused_where_peeked_is(self):
        self.check_no_place(MIRROR, EXAMPLE, (1, 0))
        self.check_no_place(LAST, EXAMPLE, (0,))
        self.check_no_place(giving(LEAF), EXAMPLE, (0,))
        self.check_no_place(SAME, chain(600), (0,) * 600)
        self.check_no_place(SAME, chain(600), (0,) * 2000)
        self.check_no_place(SAME, LEAF, (10 ** 5000,) * 2000)
        self.check_no_place(SAME, EXAMPLE, (True,))

    def test_trees_600_tall_and_of_very_many_knots(self):
        for place in ((), (0,) * 300, (0,) * 599):
            self.assertEqual(origin_at(SAME, chain(600), place), (0, place))
        self.assertEqual(origin_at(LAST, chain(600), ()), (0, (0,) * 599))
        self.assertEqual(origin_at(LAST, ladder(600), ()), (0, (1,) * 599))
        self.assertEqual(origin_at(MIRROR, ladder(600), (0, 1) * 299), (0, (1, 0) * 299))
        claw = (CLAWS, CLAWS, call(0), (SAME[3][0] + (("claw", call(0, 2), LEAF, call(0)),),))
        self.assertEqual(origin_at(claw, ladder(600, "claw", 3), (0,) * 599), (0, (2,) * 599))
        self.assertEqual(origin_at(claw, ladder(600, "claw", 3), (0,) * 598 + (1,)), (0, (2,) * 598))

    def test_places_of_2000_numbers(self):
        # Each twig is made a chain of four.
        fourfold = (KINDS, KINDS, call(0), ((LEAF, chain(5, call(0)), LEAF),))
        for length in (1, 3, 4, 5, 1999, 2000):
            place = (0,) * length
            self.assertEqual(origin_at(fourfold, chain(600), place), (0, (0,) * (length // 4)))
            self.assertEqual(peeked(fourfold, chain(600), place), "twig")

    def test_deeper_than_a_recursion_may_be(self):
        self.assertEqual(origin_at(LAST, chain(5000), ()), (0, (0,) * 4999))

    def test_nothing_is_changed(self):
        before = repr((TURNS, EXAMPLE))
        self.assertEqual(origin_at(TURNS, EXAMPLE, (1, 0)), origin_at(TURNS, EXAMPLE, (1, 0)))
        self.assertEqual(repr((TURNS, EXAMPLE)), before)
