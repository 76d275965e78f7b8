import unittest

from boughbook.counting import count_by, count_of, height_by, height_of
from boughbook.running import turned
from boughbook.trees import knots, tall
from tests.growing import (
    CLAWS, DOUBLE, EXAMPLE, KINDS, LAST, LEAF, MIRROR, SAME, TURNS, broad, call, chain, forked, giving, ladder,
    plainly_turned, plainly_turned_by, some_books, trees_of,
)

SAME_CLAWS = (CLAWS, CLAWS, call(0), (SAME[3][0] + (("claw", call(0), call(0, 1), call(0, 2)),),))


def fibonacci_tree(height):
    """A tree of few unlike kids, each of which stands on several levels."""
    rows = [LEAF, ("twig", LEAF), ("fork", ("twig", LEAF), LEAF)]
    counts = [1, 2, 4]
    while len(rows) < height:
        rows.append(("claw", rows[-3], rows[-1], rows[-2]))
        counts.append(1 + sum(counts[-3:]))
    return rows[height - 1], counts[height - 1]


class Counted(unittest.TestCase):
    def check(self, book, tree, count, height):
        self.assertEqual((count_of(book, tree), height_of(book, tree)), (count, height))

    def check_by(self, book, state, tree, count, height):
        self.assertEqual((count_by(book, state, tree), height_by(book, state, tree)), (count, height))

    def test_examples(self):
        self.check(SAME, EXAMPLE, 4, 3)
        self.check(MIRROR, EXAMPLE, 4, 3)
        self.check(LAST, EXAMPLE, 1, 1)
        self.check(DOUBLE, EXAMPLE, 5, 3)
        self.check(giving(EXAMPLE), LEAF, 4, 3)
        self.check(giving(LEAF), EXAMPLE, 1, 1)
        self.check_by(TURNS, 1, EXAMPLE, 2, 2)
        self.check_by(TURNS, 0, EXAMPLE, 8, 4)
        self.check(TURNS, EXAMPLE, 12, 6)

    def test_by_the_documents_words(self):
        for book in some_books(150, seed=21):
            for tree in trees_of(book[0], 5):
                plain = plainly_turned(book, tree)
                self.check(book, tree, knots(plain), tall(plain))
                for state in range(len(book[3])):
                    plain = plainly_turned_by(book, state, tree)
                    self.check_by(book, state, tree, knots(plain), tall(plain))

    def test_what_turned_makes(self):
        for tree in (("fork", chain(29), broad(370)), broad(400), chain(30)):
            for book in (SAME, MIRROR, LAST, giving(EXAMPLE)):
                made = turned(book, tree)
                self.check(book, tree, knots(made), tall(made))

    def test_a_call_that_stands_at_several_depths(self):
        head = ("fork", call(0), ("twig", ("fork", call(0), call(1))))
        leaf_low = (LEAF, ("twig", call(1)), LEAF)
        book = (KINDS, KINDS, head, (SAME[3][0], leaf_low))
        self.check(book, EXAMPLE, 3 + 4 + 4 + 1, 3 + 3)
        self.check(book, chain(10), 3 + 30, 3 + 10)

    def test_knots_deeper_than_any_call(self):
        book = (KINDS, KINDS, ("fork", chain(12), call(0)), SAME[3])
        self.check(book, LEAF, 14, 13)
        self.check(book, chain(12), 25, 13)
        self.check(book, chain(13), 26, 14)

    def test_outcomes_that_turned_refuses(self):
        self.check(SAME, broad(2001), 2001, tall(broad(2001)))
        self.check(SAME, chain(151), 151, 151)
        self.check_by(SAME, 0, chain(151), 151, 151)
        self.check(DOUBLE, chain(30), 2 ** 30 - 1, 30)

    def test_counts_of_very_many_figures(self):
        # 200 calls and 199 knots in each pattern.
        hundreds = forked([call(0)] * 200)
        book = (KINDS, KINDS, hundreds, ((LEAF, hundreds, LEAF),))
        for height in (1, 2, 29, 30, 150):
            count = 200 ** height + 199 * sum(200 ** row for row in range(height))
            self.check(book, chain(height), count, height * (tall(hundreds) - 1) + 1)
            by = 200 ** (height - 1) + 199 * sum(200 ** row for row in range(height - 1))
            self.check_by(book, 0, chain(height), by, (height - 1) * (tall(hundreds) - 1) + 1)

    def test_counts_of_thousands_of_figures(self):
        count = count_of((KINDS, KINDS, call(0), DOUBLE[3]), chain(20000))
        self.assertTrue(count == 2 ** 20000 - 1)

    def test_great_trees_of_twenty_states(self):
        patterns = []
        for state in range(20):
            on = (state + 1) % 20
            patterns.append((chain(state % 3 + 1), ("twig", call(on)), ("fork", call(on, 1), call(state))))
        book = (KINDS, KINDS, ("fork", call(0), call(19)), tuple(patterns))
        for tree in (("fork", chain(29), broad(370)), broad(400), chain(28, EXAMPLE)):
            plain = plainly_turned(book, tree)
            self.check(book, tree, knots(plain), tall(plain))


class VeryManyKnots(unittest.TestCase):
    def test_the_same_kid_in_all_places(self):
        for height in (1, 2, 10, 29, 30, 40, 150):
            tree = ladder(height)
            self.assertEqual(count_of(SAME, tree), 2 ** height - 1)
            self.assertEqual(count_by(MIRROR, 0, tree), 2 ** height - 1)
            self.assertEqual(height_of(MIRROR, tree), height)
            tree = ladder(height, "claw", 3)
            self.assertEqual(count_of(SAME_CLAWS, tree), (3 ** height - 1) // 2)
            self.assertEqual(height_by(SAME_CLAWS, 0, tree), height)

    def test_the_same_kid_on_several_levels(self):
        for height in (5, 10, 30, 60):
            tree, count = fibonacci_tree(height)
            self.assertEqual(count_of(SAME_CLAWS, tree), count)
            self.assertEqual(height_of(SAME_CLAWS, tree), height)

    def test_kids_that_are_unlike_far_down_alone(self):
        one, two = LEAF, ("twig", LEAF)
        for _ in range(28):
            one, two = ("fork", one, two), ("fork", two, one)
        low = ("fork", one, two)
        # 4 knots in the lowest forks, then one more than twice as many in each row.
        self.assertEqual(count_of(SAME, low), 5 * 2 ** 28 - 1)
        self.assertEqual(height_of(SAME, low), 31)

    def test_many_unlike_kids_on_one_level(self):
        rows = [LEAF, ("twig", LEAF)]
        while len(rows) < 400:
            rows = rows + [("twig", each) for each in rows[-2:]] + [("fork", rows[-1], each) for each in rows[:20]]
        for tree in rows[-20:]:
            plain = plainly_turned(SAME, tree)
            self.assertEqual(count_of(SAME, tree), knots(plain))
            self.assertEqual(height_of(SAME, tree), tall(plain))
