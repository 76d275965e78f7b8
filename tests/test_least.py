import random
import unittest

from boughbook.alike import alike
from boughbook.books import made_book, states_of
from boughbook.earliest import earliest
from boughbook.errors import Great, Many
from boughbook.joining import joined, same_book, trimmed
from boughbook.least import classes_of, least
from tests.growing import (
    CLAWS, DOUBLE, EXAMPLE, KINDS, LAST, LEAF, MIRROR, SAME, TURNS, broad, call, check_refused, disguised, forked,
    giving, plain_calls, plainly_filled, plainly_numbered, plainly_turned, plainly_turned_by, some_book, some_books,
    trees_of,
)

TWO = (("b", 1), ("a", 0))
BITS = (("x", 0), ("y", 0), ("z", 1))
EIGHT = tuple((letter, number % 4) for number, letter in enumerate("abcdefgh"))
SAME_STATE = SAME[3][0]


def plain_shape(pattern):
    return plainly_filled(pattern, lambda state, kid: ("?", kid))


def plain_classes(book):
    """For each state the first one alike with it: pairs are held alike until a pattern tells them apart."""
    rules = book[3]
    states = range(len(rules))
    held = {(one, two) for one in states for two in states}

    def fits(one, two):
        for left, right in zip(rules[one], rules[two]):
            calls = zip(plain_calls(left), plain_calls(right))
            if plain_shape(left) != plain_shape(right) or any((a[1], b[1]) not in held for a, b in calls):
                return False
        return True

    while any(not fits(*pair) for pair in held):
        held = {pair for pair in held if fits(*pair)}
    return [min(two for two in states if (one, two) in held) for one in states]


def plainly_least(book):
    early = earliest(book)
    classes = plain_classes(early)

    def renamed(pattern):
        return plainly_filled(pattern, lambda state, kid: call(classes[state], kid))

    def patterns_of(state):
        return [renamed(pattern) for pattern in early[3][state]]

    return plainly_numbered(early[0], early[1], renamed(early[2]), patterns_of)


def ring(signs):
    """A ring of states; each makes of the end of a chain its sign."""
    rules = [(("z", call((state + 1) % len(signs))), (sign,)) for state, sign in enumerate(signs)]
    return (TWO, BITS, call(0), tuple(rules))


class Classes(unittest.TestCase):
    def check_classes(self, book):
        told = classes_of(book)
        self.assertIsInstance(told, list)
        self.assertEqual(told, plain_classes(book))
        for tree in trees_of(book[0], 4):
            made = [plainly_turned_by(book, state, tree) for state in range(len(book[3]))]
            self.assertEqual(made, [made[state] for state in told])
        return told

    def test_states_that_are_alike_in_a_ring(self):
        self.assertEqual(self.check_classes(ring("xxx")), [0, 0, 0])
        self.assertEqual(self.check_classes(ring("xyxyxy")), [0, 1, 0, 1, 0, 1])
        self.assertEqual(self.check_classes(ring("xxyxxy")), [0, 1, 2, 0, 1, 2])
        self.assertEqual(self.check_classes(ring("xxyxyx")), [0, 1, 2, 3, 4, 5])
        self.assertEqual(self.check_classes(ring("x" * 20)), [0] * 20)
        self.assertEqual(self.check_classes(ring("x" * 19 + "y")), list(range(20)))

    def test_told_apart_only_far_off(self):
        # Each state leads to the next one, the last one to itself; the last but one has another end.
        signs = "x" * 18 + "yx"
        rules = [(("z", call(min(state + 1, 19))), (sign,)) for state, sign in enumerate(signs)]
        self.assertEqual(self.check_classes((TWO, BITS, call(0), tuple(rules))), list(range(20)))
        rules[18] = (rules[18][0], ("x",))
        self.assertEqual(self.check_classes((TWO, BITS, call(0), tuple(rules))), [0] * 20)

    def test_states_that_are_alike_though_their_calls_differ(self):
        book = (KINDS, KINDS, ("fork", call(0), ("fork", call(1), call(2))), (
            (LEAF, ("twig", call(1)), ("fork", call(2), call(0, 1))),
            (LEAF, ("twig", call(0)), ("fork", call(1), call(1, 1))),
            (LEAF, ("twig", call(2)), ("fork", call(0), call(1, 1))),
        ))
        self.assertEqual(self.check_classes(book), [0, 0, 0])
        other = book[:3] + (book[3][:2] + ((LEAF, ("twig", call(2)), ("fork", call(0, 1), call(1))),),)
        self.assertEqual(self.check_classes(other), [0, 1, 2])

    def test_patterns_that_differ_in_the_last_kind_alone(self):
        same = same_book(EIGHT)
        for at in range(8):
            name, many = EIGHT[at]
            patterns = list(same[3][0])
            patterns[at] = [other for other in patterns if len(other) == many + 1 and other[0] != name][0]
            book = (EIGHT, EIGHT, ("c", call(0), call(1)), (same[3][0], tuple(patterns)))
            self.assertEqual(classes_of(book), [0, 1])
        self.assertEqual(classes_of((EIGHT, EIGHT, ("c", call(0), call(1)), same[3] * 2)), [0, 0])

    def test_by_the_documents_words(self):
        source = random.Random(111)
        merged = 0
        for book in some_books(150, seed=112, most=5):
            for other in [book] + disguised(source, book):
                told = self.check_classes(earliest(other))
                merged += told != list(range(len(told)))
        self.assertGreater(merged, 50)

    def test_many_states(self):
        source = random.Random(113)
        for _ in range(100):
            book = earliest(some_book(source, TWO, BITS, 8, 2))
            self.check_classes(book)

    def test_no_states(self):
        self.assertEqual(classes_of(giving(EXAMPLE)), [])

    def test_what_is_told_is_the_askers_own(self):
        book = ring("xyxy")
        before = repr(book)
        told = classes_of(book)
        told[0] = 7
        told.append(9)
        self.assertEqual(classes_of(book), [0, 1, 0, 1])
        self.assertEqual(least(book), ring("xy"))
        self.assertEqual(repr(book), before)


class Least(unittest.TestCase):
    def check_least(self, book, most=4):
        told = least(book)
        self.assertEqual(told, plainly_least(book))
        self.assertEqual(made_book(*told), told)
        self.assertEqual(least(told), told)
        self.assertEqual(earliest(told), told)
        self.assertEqual(trimmed(told), told)
        self.assertEqual(classes_of(told), list(range(states_of(told))))
        self.assertLessEqual(states_of(told), states_of(earliest(book)))
        for tree in trees_of(book[0], most):
            self.assertEqual(plainly_turned(told, tree), plainly_turned(book, tree))
        return told

    def test_examples(self):
        for book in (SAME, MIRROR, DOUBLE):
            self.assertEqual(self.check_least(book), book)
        self.assertEqual(self.check_least(LAST), (KINDS, KINDS, LEAF, ()))
        self.check_least(TURNS)
        self.assertEqual(self.check_least(ring("xyxyxy")), ring("xy"))

    def test_by_the_documents_words(self):
        for book in some_books(250, seed=114):
            self.check_least(book)

    def test_books_that_turn_every_tree_alike_are_led_to_the_same_one(self):
        source = random.Random(115)
        fewer = 0
        for book in some_books(120, seed=116, most=5):
            wished = least(book)
            for other in disguised(source, book):
                self.assertEqual(self.check_least(other, 3), wished)
                fewer += states_of(wished) < states_of(earliest(other))
        self.assertGreater(fewer, 50)

    def test_equal_just_where_alike(self):
        source = random.Random(117)
        met = {True: 0, False: 0}
        for _ in range(400):
            one = some_book(source, TWO, BITS, source.randint(0, 3), 2)
            two = some_book(source, TWO, BITS, source.randint(0, 3), 2)
            self.assertEqual(least(one) == least(two), alike(one, two))
            met[alike(one, two)] += 1
        self.assertGreater(min(met.values()), 20)

    def test_numbers_of_states(self):
        # The states 0 and 2 are alike; what is called first is numbered first.
        told = self.check_least((KINDS, KINDS, ("fork", call(3), call(2)), (
            SAME_STATE,
            (LEAF, ("twig", call(2)), call(1)),
            (LEAF, ("twig", call(2)), ("fork", call(0), call(2, 1))),
            (EXAMPLE, LEAF, ("twig", call(1))),
        )))
        self.assertEqual(told, (KINDS, KINDS, ("fork", call(0), call(1)), (
            (EXAMPLE, LEAF, ("twig", call(2))),
            (LEAF, ("twig", call(1)), ("fork", call(1), call(1, 1))),
            (LEAF, ("twig", call(1)), call(2)),
        )))

    def test_of_joined_books(self):
        self.assertEqual(least(joined(MIRROR, MIRROR)), least(SAME))
        for one in (SAME, MIRROR, LAST, DOUBLE, TURNS):
            for two in (SAME, MIRROR, LAST, DOUBLE, TURNS):
                told = self.check_least(joined(one, two))
                self.assertEqual(least(joined(least(one), least(two))), told)
            self.assertEqual(least(joined(one, same_book(KINDS))), least(one))
            self.assertEqual(least(joined(same_book(KINDS), one)), least(one))

    def test_no_states_and_heads_without_calls(self):
        self.assertEqual(least(giving(EXAMPLE)), giving(EXAMPLE))
        self.assertEqual(least((KINDS, CLAWS, EXAMPLE, SAME[3])), giving(EXAMPLE))
        self.assertEqual(least((KINDS, CLAWS, ("twig", call(0)), ((LEAF, call(0), call(0)),))), giving(("twig", LEAF)))

    def test_one_kind_and_eight(self):
        one = ((("x", 0),), KINDS, ("twig", call(0)), ((EXAMPLE,),))
        self.assertEqual(least(one), (one[0], KINDS, ("twig", EXAMPLE), ()))
        doubled = tuple((name,) + tuple(call(kid % 2, kid) for kid in range(many)) for name, many in EIGHT)
        self.assertEqual(least((EIGHT, EIGHT, call(1), (doubled, doubled))), same_book(EIGHT))

    def test_twenty_states(self):
        self.assertEqual(least(ring("x" * 20)), ring("x"))
        self.assertEqual(least(ring("xxxxy" * 4)), ring("xxxxy"))
        self.assertEqual(least(ring("x" * 19 + "y")), ring("x" * 19 + "y"))

    def test_great_books(self):
        ins = (("leaf", 0),) + tuple((letter, 3) for letter in "abcdefg")
        rules = []
        for state in range(20):
            wide = forked([call((state + at) % 20, at % 3) for at in range(199)])
            rules.append((LEAF, ("twig", call((state + 1) % 20, 2))) + (("fork", wide, broad(100)),) * 6)
        told = least((ins, CLAWS, call(0), tuple(rules)))
        self.assertEqual(states_of(told), 1)
        wide = forked([call(0, at % 3) for at in range(199)])
        self.assertEqual(told[3], ((LEAF, ("twig", call(0, 2))) + (("fork", wide, broad(100)),) * 6,))

    def test_refused_as_earliest_is(self):
        great = (KINDS, KINDS, ("fork", broad(200), call(0)), ((broad(200),) * 3,))
        small = (KINDS, KINDS, ("fork", broad(199), call(0)), ((broad(200),) * 3,))
        check_refused(self, Great, least, great)
        self.assertEqual(least(small), earliest(small))
        for holes in (20, 21):
            one, two = forked([LEAF] * holes), forked([EXAMPLE] * holes)
            many = (KINDS, KINDS, call(0), ((one, two, one),))
            if holes == 20:
                # All 20 states are alike.
                self.assertEqual(states_of(least(many)), 1)
            else:
                check_refused(self, Many, least, many)

    def test_nothing_is_changed(self):
        for book in some_books(20, seed=118):
            before = repr(book)
            self.assertEqual(least(book), least(book))
            self.assertEqual(repr(book), before)
