import copy
import unittest

from boughbook.errors import NoPlace
from boughbook.peeking import peeked, peeked_by
from boughbook.running import turned
from boughbook.trees import knot_at, places
from tests.growing import (
    CLAWS, DOUBLE, EXAMPLE, KINDS, LAST, LEAF, MIRROR, SAME, TURNS, broad, call, chain, check_refused, giving, ladder,
    plainly_turned, plainly_turned_by, some_books, spots, trees_of,
)

GREAT_NUMBERS = [10 ** 30, -10 ** 30, 2 ** 63, -2 ** 63, 2 ** 64, 10 ** 5000, -10 ** 5000]


class Peeked(unittest.TestCase):
    def check_no_place(self, book, tree, place):
        check_refused(self, NoPlace, peeked, book, tree, place)

    def test_examples(self):
        wished = {(): "fork", (0,): "twig", (0, 0): "leaf", (1,): "leaf"}
        for place, name in wished.items():
            self.assertEqual(peeked(MIRROR, EXAMPLE, place), name)
            self.assertEqual(peeked_by(MIRROR, 0, EXAMPLE, place), name)
        self.assertEqual(peeked(LAST, EXAMPLE, ()), "leaf")
        self.assertEqual(peeked(giving(EXAMPLE), LEAF, (1, 0)), "leaf")
        self.assertEqual(peeked(TURNS, EXAMPLE, (1, 0, 0)), "fork")
        self.assertEqual(peeked_by(TURNS, 0, EXAMPLE, (0,)), "fork")
        self.assertEqual(peeked_by(TURNS, 1, EXAMPLE, ()), "twig")

    def test_each_place_by_the_documents_words(self):
        for book in some_books(100, seed=31):
            for tree in trees_of(book[0], 4):
                for place, part in spots(plainly_turned(book, tree)).items():
                    self.assertEqual(peeked(book, tree, place), part[0])
                for state in range(len(book[3])):
                    for place, part in spots(plainly_turned_by(book, state, tree)).items():
                        self.assertEqual(peeked_by(book, state, tree, place), part[0])

    def test_what_turned_makes(self):
        for tree in (("fork", chain(29), broad(370)), broad(400)):
            made = turned(MIRROR, tree)
            for place in places(made):
                self.assertEqual(peeked(MIRROR, tree, place), knot_at(made, place)[0])

    def test_places_that_the_outcome_has_not(self):
        for book in some_books(30, seed=32):
            for tree in trees_of(book[0], 3):
                for place, part in spots(plainly_turned(book, tree)).items():
                    kids = len(part) - 1
                    for number in [kids, kids + 1, -1, -kids, -kids - 1] + GREAT_NUMBERS:
                        if not 0 <= number < kids:
                            self.check_no_place(book, tree, place + (number,))
                            self.check_no_place(book, tree, place + (number, 0))
                for state in range(len(book[3])):
                    for place, part in spots(plainly_turned_by(book, state, tree)).items():
                        for number in (len(part) - 1, -1, 10 ** 5000):
                            check_refused(self, NoPlace, peeked_by, book, state, tree, place + (number,))

    def test_true_and_false_are_no_numbers(self):
        self.check_no_place(SAME, EXAMPLE, (True,))
        self.check_no_place(SAME, EXAMPLE, (1, False))

    def test_places_of_the_tree_are_not_those_of_the_outcome(self):
        self.assertEqual(peeked(MIRROR, EXAMPLE, (0, 0)), "leaf")
        self.check_no_place(MIRROR, EXAMPLE, (1, 0))
        self.check_no_place(LAST, EXAMPLE, (0,))
        self.check_no_place(giving(LEAF), EXAMPLE, (0,))

    def test_through_calls_several_states_deep(self):
        # Each state hands on the twig's kid to the next one and writes nothing; the last one writes a knot.
        patterns = [(("leaf",), call(state + 1), ("leaf",), ("leaf",)) for state in range(19)]
        patterns.append((LEAF, ("fork", call(0), ("twig", call(0))), LEAF, LEAF))
        book = (CLAWS, KINDS, ("fork", LEAF, call(0)), tuple(patterns))
        tree = chain(61)
        self.assertEqual(peeked(book, tree, (1,)), "fork")
        self.assertEqual(peeked(book, tree, (1, 0)), "fork")
        self.assertEqual(peeked(book, tree, (1, 1)), "twig")
        self.assertEqual(peeked(book, tree, (1, 1, 0, 1, 0, 1)), "twig")
        self.assertEqual(peeked(book, tree, (1, 1, 0, 1, 0, 1, 0)), "leaf")
        self.check_no_place(book, tree, (1, 1, 0, 1, 0, 1, 0, 0))
        self.check_no_place(book, tree, (1, 2))
        made = plainly_turned(book, tree)
        for place, part in spots(made).items():
            self.assertEqual(peeked(book, tree, place), part[0])

    def test_outcomes_that_are_far_too_great_to_be_made(self):
        for height in (30, 600):
            for number in (0, 1):
                place = (number,) * (height - 1)
                self.assertEqual(peeked(DOUBLE, chain(height), place), "leaf")
                self.assertEqual(peeked(DOUBLE, chain(height), place[1:]), "fork")
                self.check_no_place(DOUBLE, chain(height), place + (0,))
                self.check_no_place(DOUBLE, chain(height), place[1:] + (2,))
                self.assertEqual(peeked_by(DOUBLE, 0, ladder(height), place), "leaf")
                self.check_no_place(DOUBLE, ladder(height), place + (number,))

    def test_trees_of_very_many_knots(self):
        for height in (600, 601, 3000):
            self.assertEqual(peeked(LAST, ladder(height), ()), "leaf")
            self.assertEqual(peeked(SAME, ladder(height), (0, 1) * 200), "fork")
            self.check_no_place(LAST, ladder(height), (0,))

    def test_long_places(self):
        tall = (KINDS, KINDS, call(0), ((LEAF, ("fork", LEAF, ("twig", ("fork", call(0), LEAF))), LEAF),))
        self.assertEqual(peeked(tall, chain(600), (1, 0, 0) * 599), "leaf")
        self.assertEqual(peeked(tall, chain(600), (1, 0, 0) * 598), "fork")
        self.assertEqual(peeked(tall, chain(3000), (1, 0, 0) * 599), "fork")
        self.check_no_place(tall, chain(600), (1, 0, 0) * 600)
        long = (KINDS, KINDS, call(0), ((LEAF, chain(20, call(0)), LEAF),))
        self.assertEqual(peeked(long, chain(600), (0,) * 2000), "twig")
        self.assertEqual(peeked(long, chain(106), (0,) * 1995), "leaf")
        self.check_no_place(long, chain(106), (0,) * 1996)
        self.check_no_place(long, chain(106), (0,) * 2000)
        self.check_no_place(SAME, EXAMPLE, (1, 0) + (0,) * 1998)
        self.check_no_place(SAME, EXAMPLE, (10 ** 5000,) * 2000)

    def test_what_is_handed_in_stays(self):
        for book in some_books(10, seed=33):
            tree = trees_of(book[0], 4)[-1]
            place = places(plainly_turned(book, tree))[-1]
            before = copy.deepcopy((book, tree, place))
            told = peeked(book, tree, place)
            self.assertEqual((book, tree, place), before)
            self.assertEqual(peeked(book, tree, place), told)
