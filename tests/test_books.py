import copy
import unittest

from boughbook.books import made_book, pattern_of, states_of
from boughbook.errors import NoBook, NoKinds
from tests.growing import (
    CLAWS, DOUBLE, EXAMPLE, KINDS, LAST, LEAF, MIRROR, SAME, TURNS, broad, call, chain, check_refused, forked, giving,
    some_books, spots,
)

GREAT_NUMBERS = [10 ** 30, -10 ** 30, 2 ** 63, -2 ** 63, 10 ** 5000, -10 ** 5000]
# Pairs that are no kinds: none, none without kids, a name twice, a wrong name, a wrong count, too many.
NO_KINDS = [
    [], [("twig", 1)], [("leaf", 0), ("leaf", 0)], [("Leaf", 0)], [("leaf", 0), ("twig", 4)], [("leaf", -1)],
    [("", 0)], [("abcdefghi", 0)], [(letter, 0) for letter in "abcdefghi"], [("?", 0)],
]


def lists_of(book):
    """The book's parts as lists within lists, as far as they may be lists."""
    ins, outs, head, rules = book
    return [[list(pair) for pair in ins], [list(pair) for pair in outs], head, [list(each) for each in rules]]


def with_head(head, states=1):
    """The parts of a book that is right but maybe for its head."""
    return [KINDS, CLAWS, head, [[LEAF] * 3] * states]


def with_rule(pattern, number=0, states=1):
    """The parts of a book that is right but maybe for one pattern of its last state."""
    patterns = [LEAF] * 4
    patterns[number] = pattern
    return [CLAWS, CLAWS, LEAF, [[LEAF] * 4] * (states - 1) + [patterns]]


def broad_in_calls(calls, knots):
    """A pattern of so many calls and knots, no taller than may be."""
    ends = forked([call(0)] * calls)
    rest = knots - (calls - 1)
    if rest == 0:
        return ends
    return ("twig", ends) if rest == 1 else ("fork", ends, broad(rest - 1))


class Made(unittest.TestCase):
    def check_book(self, parts):
        told = made_book(*parts)
        self.assertEqual(told[2], parts[2])
        return told

    def check_no_book(self, parts):
        check_refused(self, NoBook, made_book, *parts)

    def check_no_kinds(self, parts):
        check_refused(self, NoKinds, made_book, *parts)

    def test_a_book_is_told_as_a_tuple_of_tuples(self):
        for book in some_books(60) + [SAME, MIRROR, LAST, DOUBLE, TURNS, giving(EXAMPLE)]:
            for parts in (list(book), lists_of(book)):
                told = made_book(*parts)
                self.assertEqual(told, book)
                self.assertEqual([type(part) for part in told], [tuple] * 4)
                self.assertEqual({type(each) for each in told[0] + told[1] + told[3]} - {tuple}, set())

    def test_a_book_of_several_states(self):
        head = ("fork", call(0), ("fork", call(1), call(0)))
        rules = [
            [LEAF, ("twig", call(1, 0)), ("fork", call(0, 1), call(1, 0))],
            [("twig", LEAF), call(0, 0), ("fork", call(1, 1), call(1, 1))],
        ]
        book = made_book(KINDS, KINDS, head, rules)
        self.assertEqual(book, (KINDS, KINDS, head, (tuple(rules[0]), tuple(rules[1]))))
        self.assertEqual(states_of(book), 2)
        for state in range(2):
            for number, name in enumerate(("leaf", "twig", "fork")):
                self.assertEqual(pattern_of(book, state, name), rules[state][number])

    def test_a_head_without_calls_and_no_states(self):
        for rules in ([], ()):
            book = made_book(KINDS, CLAWS, EXAMPLE, rules)
            self.assertEqual(book, (KINDS, CLAWS, EXAMPLE, ()))
            self.assertEqual(states_of(book), 0)
        self.assertEqual(states_of(made_book(*with_head(EXAMPLE, 3))), 3)

    def test_patterns_of_all_states_and_kinds(self):
        for book in some_books(40, seed=2):
            told = made_book(*book)
            self.assertEqual(states_of(told), len(book[3]))
            for state, patterns in enumerate(book[3]):
                for (name, _), pattern in zip(book[0], patterns):
                    self.assertEqual(pattern_of(told, state, name), pattern)

    def test_kinds_in_another_order(self):
        rules = [[("bud",), ("twig", ("bud",))]]
        book = made_book([("b", 1), ("a", 0)], [("twig", 1), ("bud", 0)], call(0), rules)
        self.assertEqual(pattern_of(book, 0, "b"), ("bud",))
        self.assertEqual(pattern_of(book, 0, "a"), ("twig", ("bud",)))

    def test_one_kind_and_eight_kinds(self):
        eight = [(letter, number % 4) for number, letter in enumerate("abcdefgh")]
        for ins in ([("a", 0)], eight):
            for outs in ([("a", 0)], eight):
                book = made_book(ins, outs, call(0), [[("a",)] * len(ins)])
                self.assertEqual(book[:2], (tuple(ins), tuple(outs)))
        nine = eight + [("i", 0)]
        self.check_no_kinds([nine, eight, ("a",), []])
        self.check_no_kinds([eight, nine, ("a",), []])

    def test_20_and_21_states(self):
        for states in (1, 2, 19, 20):
            book = self.check_book(with_head(call(states - 1), states))
            self.assertEqual(states_of(book), states)
            self.check_book(with_rule(call(states - 1), 1, states))
        for states in (21, 22, 100):
            self.check_no_book(with_head(call(0), states))
            self.check_no_book(with_head(LEAF, states))
            self.check_no_book(with_rule(call(0), 1, states))

    def test_states_that_there_are_not(self):
        for states in (1, 2, 5, 20):
            for state in [states, states + 1, -1, -states] + GREAT_NUMBERS:
                self.check_no_book(with_head(call(state), states))
                self.check_no_book(with_head(("fork", call(0), call(state)), states))
                self.check_no_book(with_rule(call(state), 1, states))
                self.check_no_book(with_rule(("twig", call(state, 2)), 3, states))
        self.check_no_book([KINDS, KINDS, call(0), []])

    def test_a_head_hands_on_the_kid_0_alone(self):
        for kid in [1, 2, 3, -1] + GREAT_NUMBERS:
            self.check_no_book(with_head(call(0, kid)))
            self.check_no_book(with_head(("twig", call(0, kid))))
            self.check_no_book(with_head(("fork", call(0), call(0, kid))))

    def test_a_rule_hands_on_kids_that_there_are(self):
        for number, (_, many) in enumerate(CLAWS):
            for kid in list(range(-4, 6)) + GREAT_NUMBERS:
                for pattern in (call(0, kid), ("fork", LEAF, call(0, kid))):
                    if 0 <= kid < many:
                        self.check_book(with_rule(pattern, number))
                    else:
                        self.check_no_book(with_rule(pattern, number))

    def test_true_and_false_are_no_numbers(self):
        self.check_no_book(with_head(call(False)))
        self.check_no_book(with_rule(call(0, True), 2))

    def test_one_pattern_for_each_kind(self):
        for many in (0, 1, 2, 4, 5, 50):
            self.check_no_book([KINDS, KINDS, LEAF, [[LEAF] * many]])
            self.check_no_book([KINDS, KINDS, LEAF, [[LEAF] * 3, [LEAF] * many]])
            self.check_no_book([KINDS, KINDS, LEAF, ([LEAF] * many, [LEAF] * 3)])
        self.check_book([KINDS, KINDS, LEAF, [[LEAF] * 3, (LEAF,) * 3]])

    def test_patterns_are_over_outs(self):
        ins = (("leaf", 0), ("bud", 0), ("twig", 1))
        wrong = [("bud",), ("leaf", LEAF), ("twig",), ("twig", LEAF, LEAF), ("fork", LEAF), ("fork",), ("",), ("*",)]
        wrong += [("fork", LEAF, LEAF, LEAF), ("lea",), ("leafs",), ("??",), ("twig", ("*",)), ("LEAF",), ("leaf ",)]
        wrong += [("leaf",) + (LEAF,) * 1000, ("x" * 1000,)]
        for thing in wrong:
            for whole in (thing, ("twig", thing), ("fork", call(0), thing), ("fork", thing, LEAF)):
                self.check_no_book([ins, KINDS, whole, [[LEAF] * 3]])
                self.check_no_book([ins, KINDS, LEAF, [[LEAF] * 3, [LEAF, LEAF, whole]]])
                self.check_no_book([ins, KINDS, LEAF, [[whole, LEAF, LEAF], [LEAF] * 3]])
        self.check_book([ins, ins, ("bud",), [[("bud",)] * 3]])

    def test_20_and_21_tall(self):
        for last in (LEAF, call(0)):
            for height, right in ((19, True), (20, True), (21, False), (22, False), (100, False), (101, False)):
                for pattern in (chain(height, last), ("fork", LEAF, chain(height - 1, last))):
                    check = self.check_book if right else self.check_no_book
                    check(with_head(pattern))
                    check(with_rule(pattern, 1))
                    check(with_rule(pattern, 3, 20))

    def test_400_and_401_knots(self):
        for knots, right in ((399, True), (400, True), (401, False), (402, False), (3000, False)):
            check = self.check_book if right else self.check_no_book
            check(with_head(broad(knots)))
            check(with_rule(broad(knots), 0))
            check(with_rule(broad(knots), 2, 20))

    def test_200_and_201_calls(self):
        for calls, right in ((199, True), (200, True), (201, False), (202, False)):
            for knots in (calls - 1, 400):
                pattern = broad_in_calls(calls, knots)
                parts = list(spots(pattern).values())
                self.assertEqual(parts.count(call(0)), calls)
                self.assertEqual(len(parts), calls + knots)
                check = self.check_book if right else self.check_no_book
                check(with_head(pattern))
                check(with_rule(pattern, 1))
                check(with_rule(pattern, 2, 20))
        self.check_no_book(with_head(broad_in_calls(200, 401)))

    def test_patterns_of_very_many_knots(self):
        for last in (LEAF, call(0)):
            pattern = last
            for _ in range(100):
                pattern = ("claw", pattern, pattern, pattern)
            self.check_no_book(with_head(pattern))
            self.check_no_book(with_rule(pattern, 1))
        pattern = call(0)
        for _ in range(19):
            pattern = ("fork", pattern, pattern)
        self.check_no_book(with_head(pattern))

    def test_no_kinds(self):
        for wrong in NO_KINDS:
            self.check_no_kinds([wrong, KINDS, LEAF, []])
            self.check_no_kinds([KINDS, wrong, LEAF, []])
            self.check_no_kinds([wrong, wrong, LEAF, []])

    def test_no_kinds_goes_first(self):
        for wrong in NO_KINDS:
            for head, rules in (
                (("bud",), []), (call(5), []), (call(0, 1), [[LEAF] * 3]), (LEAF, [[]]), (LEAF, [[LEAF]] * 21),
                (chain(101), [[("bud",)], []]), (LEAF, [[chain(21)] * 3]),
            ):
                self.check_no_book([KINDS, KINDS, head, rules])
                self.check_no_kinds([wrong, KINDS, head, rules])
                self.check_no_kinds([KINDS, wrong, head, rules])

    def test_what_is_handed_in_stays(self):
        for book in some_books(30, seed=3):
            parts = lists_of(book)
            before = copy.deepcopy(parts)
            made_book(*parts)
            self.assertEqual(parts, before)
        parts = lists_of(with_head(call(7)))
        before = copy.deepcopy(parts)
        self.check_no_book(parts)
        self.assertEqual(parts, before)

    def test_a_later_change_changes_no_book(self):
        for book in some_books(30, seed=4):
            ins, outs, head, rules = lists_of(book)
            told = made_book(ins, outs, head, rules)
            for pair in ins + outs:
                pair[0] = "other"
                pair[1] = 3
            for patterns in rules:
                patterns[0] = ("other",)
                patterns.append(("other",))
            for each in (ins, outs, rules):
                each.append("other")
            self.assertEqual(told, book)
            self.assertEqual(states_of(told), len(book[3]))
