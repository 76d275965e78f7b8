import itertools
import random
import unittest

from boughbook.books import made_book, pattern_of, states_of
from boughbook.counting import count_of, height_of
from boughbook.errors import Great, Many, NotOne
from boughbook.joining import joined, same_book, trimmed
from boughbook.patterns import calls_in, knots_of, tall_of
from boughbook.running import turned
from boughbook.trees import knots, tall
from tests.growing import (
    CLAWS, DOUBLE, EXAMPLE, KINDS, LAST, LEAF, MIRROR, SAME, TURNS, broad, call, chain, check_refused, forked, giving,
    plainly_numbered, plainly_turned, some_book, some_books, trees_of,
)

ONE = (("x", 0),)
EIGHT = tuple((letter, number % 4) for number, letter in enumerate("abcdefgh"))

# Kinds of what the growing books take: a bud becomes one knot more, a twin makes two of its kid.
BUDS = KINDS + (("bud", 0), ("twin", 1))
GROWING = (
    BUDS, KINDS, call(0),
    ((LEAF, ("twig", call(0)), ("fork", call(0), call(0, 1)), ("twig", LEAF), ("fork", call(0), call(0))),),
)


def plainly_run(second, state, pattern):
    """What comes of running the state over a pattern of the first book, straight by the document's words."""
    if pattern[0] == "?":
        return ("?", (state, pattern[1]), pattern[2])
    names = [name for name, _ in second[0]]
    return plainly_hung(second, second[3][state][names.index(pattern[0])], pattern[1:])


def plainly_hung(second, part, kids):
    if part[0] == "?":
        return plainly_run(second, part[1], kids[part[2]])
    return part[:1] + tuple(plainly_hung(second, each, kids) for each in part[1:])


def plainly_joined(first, second):
    def patterns_of(pair):
        return [plainly_run(second, pair[0], pattern) for pattern in first[3][pair[1]]]

    head = plainly_hung(second, second[2], (first[2],))
    return plainly_numbered(first[0], second[1], head, patterns_of)


def plainly_trimmed(book):
    return plainly_numbered(book[0], book[1], book[2], lambda state: list(book[3][state]))


def is_refused(book):
    """True where the book is one state too many or one of its patterns too great."""
    patterns = [book[2]] + [pattern for patterns in book[3] for pattern in patterns]
    if len(book[3]) > 20:
        return True
    return any(knots_of(each) > 400 or len(calls_in(each)) > 200 or tall_of(each) > 20 for each in patterns)


def some_pairs(many, seed, most=5):
    """Pairs of books, the outs of the first being the ins of the second."""
    source = random.Random(seed)
    kinds = [KINDS, (("b", 1), ("a", 0)), (("claw", 3), ("leaf", 0), ("bud", 0)), (("x", 0), ("y", 2))]
    pairs = []
    for _ in range(many):
        ins, between, outs = [source.choice(kinds) for _ in range(3)]
        first = some_book(source, ins, between, source.randint(0, 3), most)
        pairs.append((first, some_book(source, between, outs, source.randint(0, 3), most)))
    return pairs


def some_wide_book(source):
    """Some book with many calls in its patterns."""
    states = source.randint(1, 6)

    def some_calls(most, kids):
        return [call(source.randrange(states), source.randrange(kids)) for _ in range(source.randint(1, most))]

    rules = [
        (broad(source.randint(1, 9)), chain(source.randint(1, 5), some_calls(1, 1)[0]), forked(some_calls(9, 2)))
        for _ in range(states)
    ]
    return (KINDS, KINDS, forked(some_calls(12, 1)), tuple(rules))


class Same(unittest.TestCase):
    def test_as_the_document_tells_it(self):
        self.assertEqual(same_book(KINDS), SAME)
        self.assertEqual(same_book(ONE), (ONE, ONE, call(0), ((("x",),),)))
        claw = ("claw", call(0, 0), call(0, 1), call(0, 2))
        self.assertEqual(same_book(CLAWS), (CLAWS, CLAWS, call(0), (SAME[3][0] + (claw,),)))
        self.assertEqual(same_book(EIGHT), made_book(*same_book(EIGHT)))

    def test_each_tree_is_turned_into_itself(self):
        for kinds in (KINDS, CLAWS, ONE, EIGHT, (("b", 1), ("a", 0))):
            self.assertEqual(states_of(same_book(kinds)), 1)
            for tree in trees_of(kinds, 4):
                self.assertEqual(turned(same_book(kinds), tree), tree)


class Joined(unittest.TestCase):
    def check_one_after_the_other(self, first, second, made, most=4):
        self.assertEqual(made[:2], (first[0], second[1]))
        self.assertEqual(made_book(*made), made)
        for tree in trees_of(first[0], most):
            between = plainly_turned(first, tree)
            wished = plainly_turned(second, between)
            if knots(between) <= 400 and tall(between) <= 30 and knots(wished) <= 2000:
                self.assertEqual(turned(made, tree), wished)
            self.assertEqual(count_of(made, tree), count_of(second, between))
            self.assertEqual(height_of(made, tree), height_of(second, between))
            self.assertEqual(count_of(made, tree), knots(wished))
            self.assertEqual(height_of(made, tree), tall(wished))

    def test_examples(self):
        self.assertEqual(joined(MIRROR, MIRROR), SAME)
        self.assertEqual(joined(MIRROR, DOUBLE), (KINDS, KINDS, call(0), (
            (LEAF, ("fork", call(0), call(0)), ("fork", call(0, 1), call(0))),
        )))
        self.assertEqual(joined(LAST, DOUBLE), LAST)
        self.assertEqual(turned(joined(DOUBLE, MIRROR), EXAMPLE), ("fork", ("fork", LEAF, LEAF), LEAF))

    def test_one_after_the_other(self):
        books = [SAME, MIRROR, LAST, DOUBLE, TURNS]
        for first, second in itertools.product(books, repeat=2):
            self.check_one_after_the_other(first, second, joined(first, second), 6)

    def test_by_the_documents_words(self):
        for first, second in some_pairs(300, seed=51):
            told = joined(first, second)
            self.assertEqual(told, plainly_joined(first, second))
            self.check_one_after_the_other(first, second, told, 3)

    def test_refused_just_where_it_is_due(self):
        source = random.Random(52)
        told = {True: 0, False: 0}
        for _ in range(60):
            first, second = (some_wide_book(source), some_wide_book(source))
            plain = plainly_joined(first, second)
            told[is_refused(plain)] += 1
            if is_refused(plain):
                self.assertRaises((Great, Many), joined, first, second)
            else:
                self.assertEqual(joined(first, second), plain)
        self.assertGreater(min(told.values()), 10)

    def test_three_in_either_order(self):
        books = [MIRROR, LAST, DOUBLE, TURNS]
        for one, two, three in itertools.product(books, repeat=3):
            left = joined(joined(one, two), three)
            right = joined(one, joined(two, three))
            for tree in trees_of(KINDS, 4):
                wished = plainly_turned(three, plainly_turned(two, plainly_turned(one, tree)))
                self.assertEqual(plainly_turned(left, tree), wished)
                self.assertEqual(plainly_turned(right, tree), wished)
                self.assertEqual((count_of(left, tree), height_of(right, tree)), (knots(wished), tall(wished)))

    def test_same_book_ahead_and_behind(self):
        for book in some_books(120, seed=53) + [SAME, MIRROR, LAST, DOUBLE, TURNS, giving(EXAMPLE)]:
            ahead = joined(same_book(book[0]), book)
            behind = joined(book, same_book(book[1]))
            self.assertEqual(ahead, plainly_trimmed(book))
            self.assertEqual(behind, plainly_trimmed(book))
            self.check_one_after_the_other(same_book(book[0]), book, ahead, 3)

    def test_numbers_of_pairs(self):
        # The second one's state 1 makes forks of states 1 and 0; its state 0 leads to the second kid alone.
        second = (KINDS, KINDS, ("fork", call(1), call(0)), (
            (LEAF, ("twig", call(0)), call(0, 1)),
            (LEAF, ("twig", call(0)), ("fork", call(1, 1), call(0))),
        ))
        first = (KINDS, KINDS, ("fork", call(2), call(0)), (
            (LEAF, ("twig", call(1)), ("fork", call(0), call(2, 1))),
            (LEAF, call(2), LEAF),
            (("twig", LEAF), ("fork", call(2), call(1)), LEAF),
        ))
        # By the head (1, 0), (0, 2), (0, 0); by the patterns of (1, 0) then (0, 1), (1, 2); by those of (1, 2) (1, 1).
        told = joined(first, second)
        self.assertEqual(told[2], ("fork", ("fork", call(0), call(1)), call(2)))
        self.assertEqual(told[3], (
            (LEAF, ("twig", call(3)), ("fork", call(4, 1), call(2))),
            (("twig", LEAF), call(3), LEAF),
            (LEAF, ("twig", call(3)), call(1, 1)),
            (LEAF, call(1), LEAF),
            (("twig", LEAF), ("fork", call(5), call(1)), LEAF),
            (LEAF, call(4), LEAF),
        ))
        self.assertEqual(told, plainly_joined(first, second))

    def test_books_of_no_states(self):
        self.assertEqual(joined(giving(EXAMPLE), same_book(CLAWS)), giving(EXAMPLE))
        self.assertEqual(joined(SAME, giving(EXAMPLE)), giving(EXAMPLE))
        self.assertEqual(joined(giving(EXAMPLE), (CLAWS, KINDS, LEAF, ())), (KINDS, KINDS, LEAF, ()))

    def test_one_kind_and_eight(self):
        for kinds in (ONE, EIGHT):
            same = same_book(kinds)
            self.assertEqual(joined(same, same), same)
        flat = (EIGHT, ONE, call(0), ((("x",),) * 8,))
        self.assertEqual(joined(same_book(EIGHT), flat), flat)
        back = (ONE, EIGHT, call(0), ((("b", ("a",)),),))
        self.assertEqual(joined(flat, back)[3], ((("b", ("a",)),) * 8,))

    def test_pairs_that_nobody_calls_are_no_states(self):
        # Of 400 pairs those of equal numbers alone are called.
        rules = tuple((LEAF, ("twig", call((state + 1) % 20)), LEAF) for state in range(20))
        book = (KINDS, KINDS, call(0), rules)
        told = joined(book, book)
        self.assertEqual(told, book)

    def test_nothing_is_changed(self):
        for first, second in some_pairs(20, seed=54):
            before = repr((first, second))
            self.assertEqual(joined(first, second), joined(first, second))
            self.assertEqual(repr((first, second)), before)


class JoinedRefused(unittest.TestCase):
    def head_book(self, head):
        """A first book with this head, and a state to call."""
        return (KINDS, BUDS, head, ((LEAF,) * 3,))

    def rule_book(self, pattern, at=2):
        """A first book with this pattern of its one state."""
        patterns = [LEAF] * 3
        patterns[at] = pattern
        return (KINDS, BUDS, call(0), (tuple(patterns),))

    def check_edge(self, fitting, over):
        """The growing book makes a knot, a call or a row more of both: just enough, and one too many."""
        for around in (self.head_book, self.rule_book):
            made = joined(around(fitting), GROWING)
            self.assertEqual(made, plainly_joined(around(fitting), GROWING))
            self.assertTrue(is_refused(plainly_joined(around(over), GROWING)))
            check_refused(self, Great, joined, around(over), GROWING)

    def test_400_and_401_knots(self):
        self.check_edge(("fork", ("bud",), broad(397)), ("fork", ("bud",), broad(398)))
        self.check_edge(("fork", broad(397), ("bud",)), ("fork", broad(398), ("bud",)))
        plain = joined(self.head_book(("fork", ("bud",), broad(397))), GROWING)
        self.assertEqual(knots_of(plain[2]), 400)

    def test_200_and_201_calls(self):
        twins = ("twin", call(0))
        self.check_edge(forked([twins] + [call(0)] * 198), forked([twins] + [call(0)] * 199))
        self.check_edge(forked([call(0)] * 198 + [twins]), forked([call(0)] * 199 + [twins]))
        plain = joined(self.rule_book(forked([twins] + [call(0)] * 198)), GROWING)
        self.assertEqual(len(calls_in(pattern_of(plain, 0, "fork"))), 200)

    def test_20_and_21_tall(self):
        self.check_edge(chain(19, ("bud",)), chain(20, ("bud",)))
        self.check_edge(("fork", chain(18, ("bud",)), LEAF), ("fork", chain(19, ("bud",)), LEAF))
        plain = joined(self.rule_book(chain(19, ("bud",))), GROWING)
        self.assertEqual(tall_of(pattern_of(plain, 0, "fork")), 20)
        # A call is one row, too: here the second one writes a twig above it.
        second = (BUDS, KINDS, ("twig", call(0)), GROWING[3])
        self.assertEqual(tall_of(joined(self.head_book(chain(19, call(0))), second)[2]), 20)
        check_refused(self, Great, joined, self.head_book(chain(20, call(0))), second)

    def test_a_pattern_of_a_later_kind_and_state(self):
        first = (KINDS, BUDS, call(0), ((LEAF, call(1), LEAF), (LEAF, LEAF, chain(20, ("bud",)))))
        check_refused(self, Great, joined, first, GROWING)
        small = (KINDS, BUDS, call(0), ((LEAF, call(1), LEAF), (LEAF, LEAF, chain(19, ("bud",)))))
        self.assertEqual(joined(small, GROWING), plainly_joined(small, GROWING))
        uncalled = (KINDS, BUDS, call(0), ((LEAF, LEAF, LEAF), (LEAF, LEAF, chain(20, ("bud",)))))
        self.assertEqual(joined(uncalled, GROWING), plainly_joined(uncalled, GROWING))

    def many_states(self, firsts, seconds):
        """Two books of so many states, all pairs of which are called."""
        def book(states):
            rules = [(LEAF, ("twig", call(state)), ("fork", call(state), call(state, 1))) for state in range(states)]
            return (KINDS, KINDS, forked([call(state) for state in range(states)]), tuple(rules))

        return book(firsts), book(seconds)

    def test_20_and_21_states(self):
        for firsts, seconds in ((4, 5), (5, 4), (20, 1), (1, 20), (2, 10)):
            first, second = self.many_states(firsts, seconds)
            told = joined(first, second)
            self.assertEqual(states_of(told), 20)
            self.assertEqual(told, plainly_joined(first, second))
        for firsts, seconds in ((3, 7), (7, 3), (11, 2), (2, 11)):
            first, second = self.many_states(firsts, seconds)
            check_refused(self, Many, joined, first, second)

    def test_states_that_come_late(self):
        # State 0 alone is called by the head, each state calls the next one.
        def ring(states):
            rules = [(LEAF, ("twig", call((state + 1) % states)), LEAF) for state in range(states)]
            return (KINDS, KINDS, call(0), tuple(rules))

        self.assertEqual(states_of(joined(ring(4), ring(5))), 20)
        check_refused(self, Many, joined, ring(3), ring(7))

    def test_far_too_great_in_a_moment(self):
        deep = chain(20)
        doubling = (BUDS, KINDS, call(0), (tuple([LEAF, forked([call(0)] * 200)] + [LEAF] * 3),))
        check_refused(self, Great, joined, self.head_book(deep), doubling)
        check_refused(self, Great, joined, self.rule_book(deep), doubling)
        check_refused(self, Great, joined, self.rule_book(chain(20, call(0)), 1), doubling)

    def test_much_that_writes_nothing(self):
        # Each of the 200 calls of the second one's head leads down the whole of the first one's.
        second = (BUDS, KINDS, forked([call(0)] * 200), ((LEAF, call(0), call(0, 1), LEAF, call(0)),))
        told = joined(self.head_book(chain(20, call(0))), second)
        self.assertEqual(told[2], forked([call(0)] * 200))

    def test_not_one(self):
        for first, second in (
            (MIRROR, (KINDS[::-1], KINDS, LEAF, ())),
            (MIRROR, (KINDS[:2] + (("fork", 3),), KINDS, LEAF, ())),
            (MIRROR, (KINDS[:2] + (("forks", 2),), KINDS, LEAF, ())),
            (MIRROR, (KINDS[:2], KINDS, LEAF, ())),
            (MIRROR, (CLAWS, KINDS, LEAF, ())),
            (same_book(CLAWS), MIRROR),
            (same_book(ONE), same_book(EIGHT)),
        ):
            check_refused(self, NotOne, joined, first, second)

    def test_the_ins_of_the_first_and_the_outs_of_the_second_are_their_own(self):
        first = (ONE, KINDS, call(0), ((EXAMPLE,),))
        second = (KINDS, CLAWS, call(0), SAME[3])
        self.assertEqual(joined(first, second), (ONE, CLAWS, call(0), ((EXAMPLE,),)))
        check_refused(self, NotOne, joined, second, first)

    def test_not_one_goes_ahead(self):
        other = (BUDS[::-1], KINDS, call(0), (GROWING[3][0][::-1],))
        check_refused(self, NotOne, joined, self.head_book(chain(20, ("bud",))), other)
        first, second = self.many_states(20, 20)
        check_refused(self, NotOne, joined, first, (KINDS[::-1], KINDS, second[2], ()))


class Trimmed(unittest.TestCase):
    def test_states_that_nobody_calls(self):
        ring = ((LEAF, call(2), LEAF), (LEAF, LEAF, call(1, 1)), (LEAF, call(0), LEAF))
        self.assertEqual(trimmed((KINDS, KINDS, LEAF, ring)), (KINDS, KINDS, LEAF, ()))
        self.assertEqual(trimmed((KINDS, KINDS, call(1), ring)), (KINDS, KINDS, call(0), ((LEAF, LEAF, call(0, 1)),)))
        two = ((LEAF, call(1), LEAF), (LEAF, call(0), LEAF))
        self.assertEqual(trimmed((KINDS, KINDS, call(2), ring)), (KINDS, KINDS, call(0), two))

    def test_numbered_as_they_are_first_called(self):
        rules = (
            (LEAF, call(1), ("fork", call(4, 1), call(0))),
            (LEAF, LEAF, LEAF),
            (LEAF, call(4), call(0, 1)),
            (LEAF, call(3), call(2)),
            (("twig", LEAF), LEAF, LEAF),
        )
        told = trimmed((KINDS, KINDS, ("fork", ("twig", call(2)), call(2)), rules))
        self.assertEqual(told, (KINDS, KINDS, ("fork", ("twig", call(0)), call(0)), (
            (LEAF, call(1), call(2, 1)),
            (("twig", LEAF), LEAF, LEAF),
            (LEAF, call(3), ("fork", call(1, 1), call(2))),
            (LEAF, LEAF, LEAF),
        )))

    def test_by_the_documents_words(self):
        fewer = 0
        for book in some_books(300, seed=55, most_states=6, most=4):
            told = trimmed(book)
            self.assertEqual(told, plainly_trimmed(book))
            self.assertEqual(trimmed(told), told)
            fewer += states_of(told) < states_of(book)
            for tree in trees_of(book[0], 4):
                self.assertEqual(plainly_turned(told, tree), plainly_turned(book, tree))
        self.assertGreater(fewer, 50)

    def test_trimmed_already(self):
        for book in (SAME, MIRROR, LAST, DOUBLE, giving(EXAMPLE), same_book(EIGHT), same_book(ONE)):
            self.assertEqual(trimmed(book), book)

    def test_twenty_states(self):
        rules = tuple((LEAF, ("twig", call((state + 7) % 20)), LEAF) for state in range(20))
        told = trimmed((KINDS, KINDS, call(3), rules))
        ring = tuple((LEAF, ("twig", call((state + 1) % 20)), LEAF) for state in range(20))
        self.assertEqual(told, (KINDS, KINDS, call(0), ring))
        self.assertEqual(trimmed((KINDS, KINDS, LEAF, rules))[3], ())
