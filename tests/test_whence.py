import unittest

from boughbook.counting import count_by, count_of, height_of
from boughbook.errors import Many
from boughbook.running import turned, turned_by
from boughbook.trees import fits, knots, tall
from boughbook.whence import notes_of, whence
from tests.growing import (
    DOUBLE, EXAMPLE, KINDS, LAST, LEAF, MIRROR, SAME, TURNS, broad, call, chain, check_refused, giving,
    plainly_turned, plainly_turned_by, some_books, trees_of,
)

TWO = (("b", 1), ("a", 0))


def plain_parts(wish):
    """The unlike parts of a wish in the order in which they are first done with."""
    parts = []

    def walk(tree):
        for kid in tree[1:]:
            walk(kid)
        if tree not in parts:
            parts.append(tree)

    walk(wish)
    return parts


def plain_note(book, parts, tree):
    made = [plainly_turned_by(book, state, tree) for state in range(len(book[3]))]
    return tuple(parts.index(each) if each in parts else -1 for each in made)


def table_or_none(book, wish):
    try:
        return notes_of(book, wish)
    except Many:
        return None


class Notes(unittest.TestCase):
    def check_table(self, book, wish, most):
        """Holds the table against all trees of at most so many knots."""
        parts = plain_parts(wish)
        table = notes_of(book, wish)
        told = {}
        for note, tree in table:
            self.assertIs(fits(book[0], tree), True)
            self.assertEqual(plain_note(book, parts, tree), note)
            told[note] = knots(tree)
        self.assertEqual(len(told), len(table))
        self.assertLessEqual(len(table), 30)
        order = [(knots(tree), note) for note, tree in table]
        self.assertEqual(order, sorted(order))
        fewest = {}
        for tree in trees_of(book[0], most):
            note = plain_note(book, parts, tree)
            fewest[note] = min(knots(tree), fewest.get(note, most))
        self.assertEqual({note: many for note, many in told.items() if many <= most}, fewest)
        return table

    def test_examples(self):
        # The parts of the example: leaf, twig(leaf), and the whole.
        table = notes_of(SAME, EXAMPLE)
        self.assertEqual(table[0], ((0,), LEAF))
        self.assertEqual(table[1], ((1,), ("twig", LEAF)))
        self.assertEqual([note for note, tree in table], [(0,), (1,), (-1,), (2,)])
        self.assertEqual(table[3], ((2,), EXAMPLE))
        self.assertEqual(knots(table[2][1]), 3)
        self.assertIsInstance(table, list)
        self.assertTrue(all(isinstance(pair, tuple) and isinstance(pair[0], tuple) for pair in table))

    def test_equal_knots_are_ordered_by_notes(self):
        kinds = (("x", 0), ("y", 0), ("z", 0))
        rules = ((("twig", LEAF), LEAF, EXAMPLE), (LEAF, ("twig", LEAF), EXAMPLE))
        table = notes_of((kinds, KINDS, call(0), rules), ("twig", LEAF))
        self.assertEqual(table, [((-1, -1), ("z",)), ((0, 1), ("y",)), ((1, 0), ("x",))])

    def test_against_all_small_trees(self):
        told = 0
        for number, book in enumerate(some_books(120, seed=61)):
            wishes = trees_of(book[1], 7)
            for wish in (wishes[0], wishes[-1], wishes[number % len(wishes)]):
                if table_or_none(book, wish) is not None:
                    told += 1
                    self.check_table(book, wish, 5)
        self.assertGreater(told, 200)

    def test_against_all_small_trees_of_books_known(self):
        for book in (SAME, MIRROR, LAST, DOUBLE, TURNS):
            for wish in trees_of(KINDS, 5):
                self.check_table(book, wish, 5)

    def test_a_wish_that_is_an_outcome(self):
        for book in some_books(60, seed=62):
            for tree in trees_of(book[0], 4)[-3:]:
                wish = plainly_turned(book, tree)
                if knots(wish) <= 60 and table_or_none(book, wish) is not None:
                    self.check_table(book, wish, 4)

    def test_a_book_of_no_states(self):
        for wish in (LEAF, EXAMPLE):
            self.assertEqual(notes_of(giving(EXAMPLE), wish), [((), LEAF)])
        (note, tree), = notes_of((TWO, KINDS, LEAF, ()), EXAMPLE)
        self.assertEqual((note, tree), ((), ("a",)))

    def test_a_wish_of_one_knot(self):
        self.assertEqual(notes_of(SAME, LEAF), [((0,), LEAF), ((-1,), ("twig", LEAF))])
        self.assertEqual(notes_of(LAST, LEAF), [((0,), LEAF)])

    def test_the_same_call_twice_needs_the_same(self):
        table = notes_of(DOUBLE, ("fork", LEAF, ("twig", LEAF)))
        self.assertEqual([note for note, tree in table], [(0,), (-1,)])
        self.assertEqual([note for note, tree in notes_of(DOUBLE, ("fork", LEAF, LEAF))], [(0,), (1,), (-1,)])

    def test_states_that_nobody_calls_have_their_numbers(self):
        book = (KINDS, KINDS, LEAF, (SAME[3][0], LAST[3][0][:1] + (call(1), call(1))))
        table = self.check_table(book, EXAMPLE, 5)
        self.assertEqual([note for note, tree in table], [(0, 0), (1, 0), (-1, 0), (2, 0)])

    def test_one_kind_and_eight(self):
        one = ((("x", 0),), KINDS, call(0), ((EXAMPLE,), (LEAF,), (("fork", LEAF, LEAF),)))
        self.assertEqual(notes_of(one, EXAMPLE), [((2, 0, -1), ("x",))])
        eight = tuple((letter, number % 4) for number, letter in enumerate("abcdefgh"))
        same = tuple((name,) + tuple(call(0, kid) for kid in range(many)) for name, many in eight)
        wish = ("d", ("a",), ("b", ("e",)), ("c", ("e",), ("a",)))
        self.check_table((eight, eight, call(0), (same,)), wish, 3)
        self.assertEqual(whence((eight, eight, call(0), (same,)), wish), wish)

    def test_what_is_told_is_the_askers_own(self):
        before = repr((SAME, EXAMPLE))
        told = notes_of(SAME, EXAMPLE)
        kept = list(told)
        told.clear()
        self.assertEqual(notes_of(SAME, EXAMPLE), kept)
        other = notes_of(SAME, EXAMPLE)
        other.append(other[0])
        self.assertEqual(notes_of(SAME, EXAMPLE), kept)
        self.assertEqual(whence(SAME, EXAMPLE), EXAMPLE)
        self.assertEqual(repr((SAME, EXAMPLE)), before)


class TooManyNotes(unittest.TestCase):
    def test_30_and_31_notes(self):
        # A note for each chain that is a part, and one for what is none.
        same = (TWO, TWO, call(0), ((("b", call(0)), ("a",)),))
        wish = ("a",)
        for height in range(1, 30):
            self.assertEqual(len(notes_of(same, wish)), height + 1)
            self.assertEqual(whence(same, wish), wish)
            wish = ("b", wish)
        check_refused(self, Many, notes_of, same, wish)
        check_refused(self, Many, whence, same, wish)

    def test_30_and_31_notes_of_several_kinds_without_kids(self):
        # Seven kinds make chains from 1 to 7 tall, the eighth one makes them 7 taller.
        kinds = tuple((letter, 0) for letter in "abcdefg") + (("h", 1),)
        patterns = tuple(chain(number + 1) for number in range(7)) + (chain(8, call(0)),)
        book = (kinds, KINDS, call(0), (patterns,))
        table = notes_of(book, chain(29))
        self.assertEqual(len(table), 30)
        self.assertEqual([note for note, tree in table[:7]], [(number,) for number in range(7)])
        self.assertEqual(knots(whence(book, chain(29))), 5)
        check_refused(self, Many, notes_of, book, chain(30))
        check_refused(self, Many, whence, book, chain(30))

    def test_many_goes_ahead_of_none(self):
        # The head never makes the wish; the table has too many notes all the same.
        book = (TWO, TWO, ("a",), ((("b", call(0)), ("a",)),))
        wish = ("a",)
        for _ in range(29):
            wish = ("b", wish)
        check_refused(self, Many, whence, book, wish)
        self.assertIsNone(whence(book, wish[1]))

    def test_far_too_many_in_a_moment(self):
        # Each of 20 states tells the end of another path: there are very many notes.
        kinds = (("leaf", 0), ("bud", 0), ("claw", 3), ("prong", 3))
        rules = []
        for state in range(20):
            on = (state * 3 + 1) % 20
            rules.append((LEAF, ("twig", LEAF), call(on, state % 3), call((on + state) % 20, (state + 1) % 3)))
        book = (kinds, KINDS, call(0), tuple(rules))
        for wish in (("twig", LEAF), ("fork", LEAF, chain(58)), chain(60)):
            check_refused(self, Many, notes_of, book, wish)
            check_refused(self, Many, whence, book, wish)


class Whence(unittest.TestCase):
    def check_whence(self, book, wish, most):
        """Holds whence against all trees of at most so many knots."""
        coming = [knots(tree) for tree in trees_of(book[0], most) if plainly_turned(book, tree) == wish]
        told = whence(book, wish)
        if told is None:
            self.assertEqual(coming, [])
        else:
            self.assertEqual(plainly_turned(book, told), wish)
            self.assertEqual(turned(book, told), wish)
            if knots(told) <= most:
                self.assertEqual(knots(told), min(coming))
            else:
                self.assertEqual(coming, [])
        return told

    def test_from_none_from_one_and_from_several(self):
        self.assertEqual(whence(MIRROR, EXAMPLE), ("fork", ("twig", LEAF), LEAF))
        self.assertEqual(whence(LAST, LEAF), LEAF)
        self.assertIsNone(whence(LAST, ("twig", LEAF)))
        self.assertIsNone(whence(DOUBLE, ("twig", LEAF)))
        self.assertEqual(whence(DOUBLE, ("fork", LEAF, LEAF)), ("twig", LEAF))
        self.assertEqual(whence(DOUBLE, ("fork", LEAF, ("fork", LEAF, LEAF))), ("fork", LEAF, ("twig", LEAF)))
        self.assertIsNone(whence(TURNS, LEAF))
        self.assertEqual(whence(giving(EXAMPLE), EXAMPLE), LEAF)
        self.assertIsNone(whence(giving(EXAMPLE), LEAF))
        self.assertIsNone(whence(giving(LEAF), EXAMPLE))

    def test_the_head_calls_several_states(self):
        book = (KINDS, KINDS, ("fork", call(0), call(1)), (SAME[3][0], LAST[3][0][:1] + (call(1), ("twig", call(1)))))
        self.assertEqual(self.check_whence(book, ("fork", LEAF, LEAF), 4), LEAF)
        self.assertIsNone(self.check_whence(book, ("fork", LEAF, ("twig", LEAF)), 5))
        self.assertEqual(
            self.check_whence(book, ("fork", ("fork", LEAF, LEAF), ("twig", LEAF)), 5), ("fork", LEAF, LEAF))
        twice = (KINDS, KINDS, ("fork", call(0), call(0)), SAME[3])
        self.assertIsNone(whence(twice, EXAMPLE))
        self.assertEqual(whence(twice, ("fork", EXAMPLE, EXAMPLE)), EXAMPLE)

    def test_all_small_wishes(self):
        for book in (SAME, MIRROR, LAST, DOUBLE, TURNS):
            for wish in trees_of(KINDS, 6):
                self.check_whence(book, wish, 6)

    def test_wishes_of_some_books(self):
        found = {True: 0, False: 0}
        for book in some_books(120, seed=63):
            wishes = [plainly_turned(book, tree) for tree in trees_of(book[0], 5)[-4:]] + trees_of(book[1], 5)[:6]
            for wish in wishes:
                if knots(wish) <= 60 and table_or_none(book, wish) is not None:
                    found[self.check_whence(book, wish, 5) is None] += 1
        self.assertGreater(min(found.values()), 100)

    def test_the_fewest_knots_of_several(self):
        # A knot c makes as many twigs more as it has knots more, or one more than that.
        kinds = (("a", 0), ("b", 1), ("c", 3))
        for twigs, fewer in ((3, 0), (4, 1)):
            book = (kinds, KINDS, call(0), ((LEAF, ("twig", call(0)), chain(twigs + 1, call(0, 1))),))
            for height in range(1, 25):
                told = whence(book, chain(height))
                self.assertEqual(turned(book, told), chain(height))
                self.assertEqual(knots(told), height - fewer * ((height - 1) // 4))

    def test_the_fewest_knots_are_found_last(self):
        # Each kind makes one twig more; the one with the fewest kids stands last.
        kinds = (("a", 0), ("d", 3), ("c", 2), ("b", 1))
        for first in (1, 2):
            rules = ((LEAF,) + (("twig", call(0, 1)),) * 2 + (("twig", call(0)),),)
            book = (kinds[:1] + kinds[first:], KINDS, call(0), (rules[0][:1] + rules[0][first:],))
            for height in range(1, 25):
                self.assertEqual(knots(whence(book, chain(height))), height)

    def test_great_wishes(self):
        table = notes_of(SAME, ("fork", chain(20), chain(20)))
        self.assertEqual(len(table), 22)
        for wish in (chain(20, ("fork", LEAF, LEAF)), broad(60), ("fork", broad(30), broad(29))):
            self.assertEqual(whence(SAME, wish), wish)
            self.assertEqual(whence(MIRROR, turned(MIRROR, wish)), wish)


class GreatTrees(unittest.TestCase):
    def far_book(self):
        """State 0 makes leaves only of trees that are 20 tall, all else are buds; 27 such trees are needed."""
        ins = (("end", 0), ("far", 3), ("claw", 3))
        outs = (("leaf", 0), ("bud", 0), ("claw", 3))
        rules = []
        for state in range(20):
            ends = ("leaf",) if state == 19 else ("bud",)
            far = call(state + 1, 1) if state < 19 else ("bud",)
            claw = ("claw", call(0), call(0, 1), call(0, 2)) if state == 0 else ("bud",)
            rules.append((ends, far, claw))
        return (ins, outs, call(0), tuple(rules))

    def claws(self, height):
        tree = LEAF
        for _ in range(height - 1):
            tree = ("claw", tree, tree, tree)
        return tree

    def test_trees_of_many_knots_are_turned_and_counted(self):
        book = self.far_book()
        wish = self.claws(4)
        tree = whence(book, wish)
        self.assertEqual((knots(tree), tall(tree)), (13 + 27 * 58, 23))
        self.assertEqual(turned(book, tree), wish)
        self.assertEqual((count_of(book, tree), height_of(book, tree)), (40, 4))
        parts = plain_parts(wish)
        for note, tree in notes_of(book, wish):
            for state, number in enumerate(note):
                made = turned_by(book, state, tree)
                self.assertEqual(made in parts, number >= 0)
                self.assertTrue(number < 0 or made == parts[number])
                self.assertEqual(count_by(book, state, tree), knots(made))

    def test_as_tall_as_the_table_is_long(self):
        same = (TWO, TWO, call(0), ((("b", call(0)), ("a",)),))
        wish = ("a",)
        for _ in range(28):
            wish = ("b", wish)
        table = notes_of(same, wish)
        note, tree = table[-1]
        self.assertEqual((note, tall(tree)), ((-1,), 30))
        for note, tree in table:
            self.assertEqual(turned(same, tree), tree)
            self.assertEqual((count_of(same, tree), height_of(same, tree)), (tall(tree), tall(tree)))

    def test_the_greatest_table_in_a_moment(self):
        # 20 states, 60 knots in the wish, seven kinds with three kids each.
        ins = (("leaf", 0),) + tuple((letter, 3) for letter in "abcdefg")
        rules = []
        for state in range(20):
            rules.append((LEAF, ("twig", call(state)), call(state, 1), call(state, 2)) + (call(state),) * 4)
        book = (ins, KINDS, call(19), tuple(rules))
        wish = chain(29)
        table = notes_of(book, wish)
        self.assertEqual(len(table), 30)
        self.assertEqual(turned(book, whence(book, wish)), wish)
        check_refused(self, Many, notes_of, book, chain(30))
