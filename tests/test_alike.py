import random
import unittest

from boughbook.alike import alike, pairs_of, parted
from boughbook.earliest import earliest
from boughbook.errors import Great, Many, NotOne
from boughbook.joining import joined, same_book
from boughbook.peeking import peeked
from boughbook.running import turned
from boughbook.trees import fits, knot_at, knots, tall
from tests.growing import (
    CLAWS, DOUBLE, EXAMPLE, KINDS, LAST, LEAF, MIRROR, SAME, TURNS, broad, call, check_refused,
    disguised, forked, giving, plainly_turned, some_book, some_books, some_pattern, spots, trees_of, with_pattern,
)

ONE = (("x", 0),)
TWO = (("b", 1), ("a", 0))
EIGHT = tuple((letter, number % 4) for number, letter in enumerate("abcdefgh"))
BITS = (("x", 0), ("y", 0), ("z", 1))

# Books whose earliest books are refused: a head of too many knots, and a state of 21 holes.
TOO_GREAT = (KINDS, KINDS, ("fork", broad(200), call(0)), ((broad(200),) * 3,))
TOO_MANY = (KINDS, KINDS, call(0), ((forked([LEAF] * 21), forked([EXAMPLE] * 21), forked([LEAF] * 21)),))


def plain_match(one, two):
    """The pairs of called states of two patterns that match, by places; None where they do not match."""
    left, right = spots(one), spots(two)
    pairs = []
    for place in sorted(set(left) | set(right)):
        if place not in left or place not in right:
            return None
        here, there = left[place], right[place]
        if here[0] != there[0] or (here[0] == "?" and here[2] != there[2]):
            return None
        if here[0] == "?":
            pairs.append((here[1], there[1]))
    return pairs


def plain_pairs(one, two):
    """The list of pairs of two earliest books, straight by the document's words."""
    met = []
    rows = [[(one[2], two[2])]]
    for row in rows:
        for left, right in row:
            pairs = plain_match(left, right)
            if pairs is None:
                return None
            for pair in pairs:
                if pair not in met:
                    met.append(pair)
                    rows.append(list(zip(one[3][pair[0]], two[3][pair[1]])))
    return met


def changed(source, book):
    """The book with one pattern exchanged for some other one."""
    state = source.randrange(-1, len(book[3]))
    if state < 0:
        return with_pattern(book, None, some_pattern(source, book[1], len(book[3]), 1, 6))
    at = source.randrange(len(book[0]))
    return with_pattern(book, (state, at), some_pattern(source, book[1], len(book[3]), book[0][at][1], 6))


def ring(signs, height=1):
    """A book that makes of a chain of twigs a longer one, at the end of which stands the sign of its length."""
    rules = []
    for state, sign in enumerate(signs):
        more = call((state + 1) % len(signs))
        for _ in range(height):
            more = ("z", more)
        rules.append(((sign,), more))
    return ((("a", 0), ("b", 1)), BITS, call(0), tuple(rules))


def rings_that_part_late(one, two):
    """Two rows of signs of these lengths that, gone round and round, are the same for one + two - 2 signs."""
    same = one + two - 2
    groups = list(range(same))
    for step in (one, two):
        for at in range(same - step):
            old, new = groups[at + step], groups[at]
            groups = [new if each == old else each for each in groups]
    signs = ["x" if each == groups[0] else "y" for each in groups]
    return signs[:one], signs[:two]


class Checked(unittest.TestCase):
    def check_parted(self, one, two):
        """What parted tells parts the books."""
        self.assertIs(alike(one, two), False)
        told = parted(one, two)
        self.assertIsInstance(told, tuple)
        tree, place = told
        self.assertIs(fits(one[0], tree), True)
        self.assertLessEqual(tall(tree), 600)
        self.assertLessEqual(knots(tree), 2000)
        self.assertIsInstance(place, tuple)
        self.assertLessEqual(len(place), 2000)
        self.assertNotEqual(peeked(one, tree, place), peeked(two, tree, place))
        return told

    def check_alike(self, one, two):
        self.assertIs(alike(one, two), True)
        self.assertIs(alike(two, one), True)
        self.assertIsNone(parted(one, two))
        self.assertIsNone(parted(two, one))


class Alike(Checked):
    def test_examples(self):
        books = [SAME, MIRROR, LAST, DOUBLE, TURNS]
        for number, one in enumerate(books):
            for other, two in enumerate(books):
                if number == other:
                    self.check_alike(one, two)
                else:
                    self.check_parted(one, two)
        self.check_alike(joined(MIRROR, MIRROR), SAME)
        self.assertEqual(parted(SAME, DOUBLE), (("twig", LEAF), ()))

    def test_against_all_small_trees(self):
        source = random.Random(91)
        met = {True: 0, False: 0}
        for book in some_books(150, seed=92, most=5):
            for other in [changed(source, book) for _ in range(3)]:
                differ = [
                    tree for tree in trees_of(book[0], 5) if plainly_turned(book, tree) != plainly_turned(other, tree)
                ]
                met[alike(book, other)] += 1
                if alike(book, other):
                    self.check_alike(book, other)
                    self.assertEqual(differ, [])
                else:
                    self.check_parted(book, other)
                    self.check_parted(other, book)
        self.assertGreater(min(met.values()), 100)

    def test_books_that_have_little_in_common(self):
        source = random.Random(93)
        for outs in (BITS, (("x", 0), ("y", 2))):
            for ins in (KINDS, TWO):
                for _ in range(60):
                    one = some_book(source, ins, outs, source.randint(0, 4), 5)
                    two = some_book(source, ins, outs, source.randint(0, 4), 5)
                    differ = any(plainly_turned(one, tree) != plainly_turned(two, tree) for tree in trees_of(ins, 5))
                    if parted(one, two) is None:
                        self.assertFalse(differ)
                        self.check_alike(one, two)
                    else:
                        self.check_parted(one, two)

    def test_what_parts_held_against_what_is_turned(self):
        source = random.Random(94)
        held = 0
        for book in some_books(60, seed=95, most=5):
            other = changed(source, book)
            if not alike(book, other):
                tree, place = parted(book, other)
                one, two = turned(book, tree), turned(other, tree)
                self.assertNotEqual(knot_at(one, place)[0], knot_at(two, place)[0])
                held += 1
        self.assertGreater(held, 20)

    def test_books_made_of_one_another(self):
        source = random.Random(96)
        for book in some_books(120, seed=97, most=5):
            for other in disguised(source, book):
                for tree in trees_of(book[0], 4):
                    self.assertEqual(plainly_turned(other, tree), plainly_turned(book, tree))
                self.check_alike(book, other)

    def test_a_disguised_book_that_is_changed_is_parted(self):
        source = random.Random(98)
        for book in some_books(60, seed=99, most=5):
            for other in disguised(source, book):
                last = changed(source, other)
                tree = trees_of(book[0], 4)[-1]
                if plainly_turned(last, tree) != plainly_turned(book, tree):
                    self.check_parted(book, last)

    def test_a_knot_against_a_call(self):
        # The one writes a twig at once; of the call that the other one has there a leaf may come, or a twig.
        for pattern in (("twig", LEAF), LEAF, ("fork", LEAF, LEAF)):
            book = (KINDS, KINDS, call(0), SAME[3])
            other = with_pattern(book, (0, 1), pattern)
            self.check_parted(book, other)
            self.check_parted(other, book)
            head = with_pattern(book, None, pattern)
            self.check_parted(book, head)
            self.check_parted(head, book)

    def test_calls_that_hand_on_unlike_kids(self):
        first = (KINDS, KINDS, call(0), ((LEAF, ("twig", call(0)), call(0)),))
        second = (KINDS, KINDS, call(0), ((LEAF, ("twig", call(0)), call(0, 1)),))
        tree, place = self.check_parted(first, second)
        self.assertEqual(tree[0], "fork")
        self.check_parted(second, first)
        kinds = CLAWS
        for left in range(3):
            for right in range(3):
                books = [
                    (kinds, kinds, ("twig", call(0)), (SAME[3][0] + (("fork", LEAF, call(0, kid)),),))
                    for kid in (left, right)
                ]
                if left == right:
                    self.check_alike(*books)
                else:
                    self.check_parted(*books)

    def test_heads_without_calls(self):
        self.check_alike(giving(EXAMPLE), giving(EXAMPLE))
        self.check_alike((KINDS, CLAWS, EXAMPLE, SAME[3]), giving(EXAMPLE))
        self.assertEqual(self.check_parted(giving(EXAMPLE), giving(LEAF)), (LEAF, ()))
        self.assertEqual(self.check_parted(giving(EXAMPLE), giving(("fork", LEAF, LEAF))), (LEAF, (1,)))
        same = (KINDS, CLAWS, call(0), SAME[3])
        self.check_parted(same, giving(LEAF))
        self.check_parted(giving(EXAMPLE), same)
        # A state that always makes the same is as good as none.
        self.check_alike((KINDS, CLAWS, ("twig", call(0)), ((LEAF, call(0), call(0, 1)),)), giving(("twig", LEAF)))

    def test_one_kind_and_eight(self):
        self.check_alike((ONE, KINDS, call(0), ((EXAMPLE,),)), (ONE, KINDS, EXAMPLE, ()))
        self.check_parted((ONE, KINDS, call(0), ((EXAMPLE,),)), (ONE, KINDS, LEAF, ()))
        same = same_book(EIGHT)
        for at, (name, many) in enumerate(EIGHT):
            other = [pattern for pattern in same[3][0] if len(pattern) == many + 1 and pattern[0] != name][0]
            tree, place = self.check_parted(same, with_pattern(same, (0, at), other))
            self.assertEqual(tree[0], name)

    def test_part_only_at_the_last_of_several_states(self):
        for states in (2, 5, 20):
            signs = ["x"] * (states - 1)
            tree, place = self.check_parted(ring(signs + ["x"]), ring(signs + ["y"]))
            self.assertEqual((tall(tree), place), (states, (0,) * (states - 1)))
            self.check_parted(ring(["x"]), ring(signs + ["y"]))
            self.check_parted(ring(signs + ["y"]), ring(["x"]))

    def test_part_only_far_down(self):
        # The two rings go alike for 37 steps, each of which writes 19 knots.
        for one, two in ((3, 2), (5, 4), (20, 19), (19, 20), (20, 17)):
            left, right = rings_that_part_late(one, two)
            for height in (1, 19):
                first, second = ring(left, height), ring(right, height)
                tree, place = self.check_parted(first, second)
                self.assertEqual(tall(tree), one + two - 1)
                self.assertEqual(len(place), (one + two - 2) * height)
        self.assertEqual(len(self.check_parted(*[ring(each, 19) for each in rings_that_part_late(20, 19)])[1]), 703)

    def test_rings_that_are_alike(self):
        self.check_alike(ring("xy"), ring("xyxy"))
        self.check_alike(ring("xxyxxy"), ring("xxyxxyxxyxxyxxyxxy"))
        self.check_parted(ring("xxyxxy"), ring("xxyxxyxxyxxyxxyxxx"))

    def test_states_that_are_alike_though_their_calls_differ(self):
        one = (KINDS, KINDS, call(0), SAME[3])
        two = (KINDS, KINDS, call(2), (
            (LEAF, ("twig", call(1)), ("fork", call(2), call(0, 1))),
            (LEAF, ("twig", call(0)), ("fork", call(1), call(1, 1))),
            (LEAF, ("twig", call(2)), ("fork", call(0), call(1, 1))),
        ))
        self.check_alike(one, two)

    def test_what_is_written_early_and_late(self):
        # The one writes the twig above the call, the other one beneath it, at each knot.
        early = (TWO, BITS, ("z", call(0)), ((("z", call(0)), ("x",)),))
        late = (TWO, BITS, call(0), ((("z", call(0)), ("z", ("x",))),))
        self.check_alike(early, late)
        self.check_parted(early, (TWO, BITS, call(0), ((("z", call(0)), ("x",)),)))

    def test_great_books(self):
        ins = (("leaf", 0),) + tuple((letter, 3) for letter in "abcdefg")
        rules = []
        for state in range(20):
            wide = forked([call((state + at) % 20, at % 3) for at in range(199)])
            rules.append((LEAF, ("twig", call((state + 1) % 20, 2))) + (("fork", wide, broad(100)),) * 6)
        book = (ins, CLAWS + (("bud", 0),), call(0), tuple(rules))
        other = with_pattern(book, (19, 0), ("bud",))
        self.assertIs(alike(book, book), True)
        tree, place = parted(book, other)
        self.assertNotEqual(peeked(book, tree, place), peeked(other, tree, place))

    def test_nothing_is_changed(self):
        for one, two in ((SAME, MIRROR), (TURNS, TURNS), (TURNS, LAST)):
            before = repr((one, two))
            self.assertEqual(parted(one, two), parted(one, two))
            self.assertEqual(alike(one, two), one == two)
            self.assertEqual(repr((one, two)), before)


class Pairs(unittest.TestCase):
    def test_of_a_book_and_itself(self):
        for book in some_books(150, seed=101, most=5) + [SAME, LAST, TURNS, giving(EXAMPLE)]:
            early = earliest(book)
            self.assertEqual(pairs_of(early, early), plain_pairs(early, early))
            self.assertEqual(pairs_of(early, early), [(state, state) for state in range(len(early[3]))])

    def test_of_two_that_differ_in_one_pattern(self):
        source = random.Random(102)
        met = {True: 0, False: 0}
        for book in some_books(200, seed=103, most=5):
            one, two = earliest(book), earliest(changed(source, book))
            told = pairs_of(one, two)
            self.assertEqual(told, plain_pairs(one, two))
            met[told is None] += 1
        self.assertGreater(min(met.values()), 50)

    def test_of_disguised_books(self):
        source = random.Random(104)
        longer = 0
        for book in some_books(100, seed=105, most=5):
            for other in disguised(source, book):
                one, two = earliest(book), earliest(other)
                told = pairs_of(one, two)
                self.assertIsInstance(told, list)
                self.assertEqual(told, plain_pairs(one, two))
                longer += len(told) > len(one[3])
        self.assertGreater(longer, 10)

    def test_the_order_in_which_they_are_met(self):
        one = (KINDS, KINDS, ("fork", call(0), call(1)), (
            (LEAF, ("twig", call(0)), ("fork", call(0), call(1, 1))),
            (LEAF, ("twig", call(1)), ("fork", call(1), call(1, 1))),
        ))
        two = (KINDS, KINDS, ("fork", call(0), call(1)), (
            (LEAF, ("twig", call(2)), ("fork", call(0), call(1, 1))),
            (LEAF, ("twig", call(0)), ("fork", call(2), call(2, 1))),
            (LEAF, ("twig", call(1)), ("fork", call(2), call(0, 1))),
        ))
        self.assertEqual((earliest(one), earliest(two)), (one, two))
        self.assertEqual(pairs_of(one, two), [(0, 0), (1, 1), (0, 2), (1, 0), (1, 2), (0, 1)])
        self.assertEqual(pairs_of(one, two), plain_pairs(one, two))
        self.assertEqual(pairs_of(two, one), plain_pairs(two, one))

    def test_no_states(self):
        self.assertEqual(pairs_of(giving(EXAMPLE), giving(EXAMPLE)), [])
        self.assertIsNone(pairs_of(giving(EXAMPLE), giving(LEAF)))
        self.assertIsNone(pairs_of(giving(EXAMPLE), (KINDS, CLAWS, call(0), SAME[3])))

    def test_all_pairs_of_great_books(self):
        def wide(states):
            rules = [(LEAF, ("twig", call((state + 1) % states)), ("twig", call(state, 1))) for state in range(states)]
            return (KINDS, KINDS, call(0), tuple(rules))

        self.assertEqual(sorted(pairs_of(wide(20), wide(19))), [(one, two) for one in range(20) for two in range(19)])

    def test_what_is_told_is_the_askers_own(self):
        told = pairs_of(SAME, SAME)
        told.append((7, 7))
        self.assertEqual(pairs_of(SAME, SAME), [(0, 0)])
        pairs_of(SAME, SAME).clear()
        self.assertEqual(pairs_of(SAME, SAME), [(0, 0)])

    def test_not_one(self):
        check_refused(self, NotOne, pairs_of, SAME, (KINDS[::-1], KINDS, LEAF, ()))
        check_refused(self, NotOne, pairs_of, SAME, (KINDS, KINDS[::-1], LEAF, ()))


class Refused(unittest.TestCase):
    def check_both(self, refusal, one, two):
        check_refused(self, refusal, alike, one, two)
        check_refused(self, refusal, parted, one, two)

    def test_not_one(self):
        for other in (
            (KINDS[::-1], KINDS, LEAF, ()), (KINDS, KINDS[::-1], LEAF, ()), (CLAWS, KINDS, LEAF, ()),
            (KINDS, CLAWS, LEAF, ()), (KINDS[:2], KINDS, LEAF, ()), (KINDS, KINDS[:2], LEAF, ()),
            (KINDS[:2] + (("fork", 3),), KINDS, LEAF, ()), (KINDS, KINDS[:2] + (("forks", 2),), LEAF, ()),
        ):
            for refused in (alike, parted, pairs_of):
                check_refused(self, NotOne, refused, SAME, other)
                check_refused(self, NotOne, refused, other, SAME)

    def test_an_earliest_book_that_is_refused(self):
        check_refused(self, Great, earliest, TOO_GREAT)
        check_refused(self, Many, earliest, TOO_MANY)
        for refusal, book in ((Great, TOO_GREAT), (Many, TOO_MANY)):
            self.check_both(refusal, book, SAME)
            self.check_both(refusal, SAME, book)
            self.check_both(refusal, book, book)
        self.check_both(Great, TOO_GREAT, TOO_MANY)
        self.check_both(Many, TOO_MANY, TOO_GREAT)

    def test_not_one_goes_ahead(self):
        for book in (TOO_GREAT, TOO_MANY):
            for other in ((KINDS[::-1], KINDS, LEAF, ()), (KINDS, CLAWS) + book[2:]):
                self.check_both(NotOne, book, other)
                self.check_both(NotOne, other, book)
