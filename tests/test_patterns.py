import copy
import unittest

from boughbook.patterns import (
    calls_in, common, filled, fits_pattern, holes_in, hung, knots_of, lies_on, parts_at, tall_of,
)
from tests.growing import EXAMPLE, KINDS, broad, chain, spots, things_of, trees_of

LEAF = ("leaf",)
HOLE = ("*",)
CALL = ("?", 0, 0)
KNOTS = [((name,), many) for name, many in KINDS]
PATTERNS = things_of(KNOTS + [(("?", 0, 0), 0), (("?", 1, 2), 0)], 4)
FRONTS = things_of(KNOTS + [(HOLE, 0)], 4)
# Unlike counts of kids under one name, and more than three of them.
UNLIKE = things_of([(("a",), 0), (("a",), 1), (("a",), 2), (("b",), 2), (HOLE, 0)], 4)
UNLIKE += [("a",) + (("a",),) * 4, ("a",) + (("a",),) * 5, ("a",) + (("b",), ("a",)) * 2, ("a",) + (HOLE,) * 4]


def is_knot(part):
    return part[0] not in ("?", "*")


def plainly_lies(front, thing):
    on = spots(thing)
    for place, part in spots(front).items():
        if part != HOLE:
            if place not in on or on[place][0] != part[0] or len(on[place]) != len(part):
                return False
    return True


def plainly_common(one, two):
    if is_knot(one) and one[0] == two[0] and len(one) == len(two):
        return one[:1] + tuple(plainly_common(left, right) for left, right in zip(one[1:], two[1:]))
    return HOLE


def plainly_filled(pattern, table):
    if pattern[0] == "?":
        return table[pattern[1:]]
    return pattern[:1] + tuple(plainly_filled(kid, table) for kid in pattern[1:])


class Fits(unittest.TestCase):
    def test_patterns_over_the_kinds(self):
        for pattern in PATTERNS:
            self.assertIs(fits_pattern(KINDS, pattern, 2, 3), True, pattern)
            self.assertIs(fits_pattern(KINDS, pattern, 5, 9), True, pattern)

    def test_trees_are_patterns_whatever_may_be_called(self):
        for tree in trees_of(KINDS, 5):
            self.assertIs(fits_pattern(KINDS, tree, 0, 0), True)

    def test_a_call_alone(self):
        for state in range(-2, 5):
            for kid in range(-2, 5):
                right = 0 <= state < 3 and 0 <= kid < 2
                self.assertIs(fits_pattern(KINDS, ("?", state, kid), 3, 2), right)
                self.assertIs(fits_pattern(KINDS, ("fork", LEAF, ("?", state, kid)), 3, 2), right)
                self.assertIs(fits_pattern(KINDS, ("fork", ("?", state, kid), CALL), 3, 2), right)
                self.assertIs(fits_pattern(KINDS, ("?", state, kid), 0, 0), False)
                self.assertIs(fits_pattern(KINDS, ("?", state, kid), 3, 0), False)
                self.assertIs(fits_pattern(KINDS, ("?", state, kid), 0, 2), False)

    def test_calls_of_very_great_numbers(self):
        for number in (10 ** 30, -10 ** 30, 10 ** 5000, -10 ** 5000):
            self.assertIs(fits_pattern(KINDS, ("?", number, 0), 3, 3), False)
            self.assertIs(fits_pattern(KINDS, ("twig", ("?", 0, number)), 3, 3), False)

    def test_true_and_false_are_no_numbers(self):
        self.assertIs(fits_pattern(KINDS, ("?", True, 0), 3, 3), False)
        self.assertIs(fits_pattern(KINDS, ("?", 0, False), 3, 3), False)

    def test_names_and_counts_of_kids(self):
        wrong = [("bud",), ("leaf", LEAF), ("leaf", CALL), ("twig",), ("twig", CALL, CALL), ("fork", CALL), ("",)]
        wrong += [HOLE, ("twig", HOLE), ("??",), ("??", LEAF), ("*", LEAF), ("fork", CALL, LEAF, CALL), ("? ", LEAF)]
        for thing in wrong:
            for whole in (thing, ("twig", thing), ("fork", CALL, thing), ("fork", thing, LEAF)):
                self.assertIs(fits_pattern(KINDS, whole, 3, 3), False, whole)

    def test_great_patterns(self):
        self.assertIs(fits_pattern(KINDS, broad(4000, CALL), 1, 1), True)
        self.assertIs(fits_pattern(KINDS, broad(4000, ("?", 0, 1)), 1, 1), False)
        self.assertIs(fits_pattern(KINDS, chain(101, CALL), 1, 1), True)
        self.assertIs(fits_pattern(KINDS, chain(101, HOLE), 1, 1), False)


class Counted(unittest.TestCase):
    def test_calls_and_holes_are_no_knots_and_1_tall(self):
        for thing in (CALL, ("?", 7, 2), HOLE):
            self.assertEqual((knots_of(thing), tall_of(thing)), (0, 1))
            self.assertEqual((knots_of(("twig", thing)), tall_of(("twig", thing))), (1, 2))
            self.assertEqual((knots_of(("fork", thing, LEAF)), tall_of(("fork", thing, LEAF))), (2, 2))

    def test_by_places(self):
        for thing in PATTERNS + FRONTS:
            found = spots(thing)
            self.assertEqual(knots_of(thing), len([part for part in found.values() if is_knot(part)]))
            self.assertEqual(tall_of(thing), 1 + max(len(place) for place in found))

    def test_great_ones(self):
        for last in (LEAF, CALL, HOLE):
            knots = 60 if last == LEAF else 59
            self.assertEqual((knots_of(chain(60, last)), tall_of(chain(60, last))), (knots, 60))
        parts = spots(broad(4000, CALL)).values()
        self.assertEqual(knots_of(broad(4000, CALL)), len([part for part in parts if is_knot(part)]))
        self.assertEqual(knots_of(broad(4000)), 4000)


class Calls(unittest.TestCase):
    def test_examples(self):
        self.assertEqual(calls_in(("?", 3, 1)), [((), (3, 1))])
        self.assertEqual(calls_in(EXAMPLE), [])
        pattern = ("fork", ("twig", ("?", 4, 1)), ("?", 0, 2))
        self.assertEqual(calls_in(pattern), [((0, 0), (4, 1)), ((1,), (0, 2))])

    def test_by_places_ascending(self):
        for pattern in PATTERNS:
            wished = [(place, part[1:]) for place, part in sorted(spots(pattern).items()) if part[0] == "?"]
            self.assertEqual(calls_in(pattern), wished)

    def test_the_list_is_the_askers_own(self):
        pattern = ("twig", CALL)
        calls_in(pattern).clear()
        self.assertEqual(calls_in(pattern), [((0,), (0, 0))])

    def test_filled(self):
        for table in (
            {(0, 0): LEAF, (1, 2): EXAMPLE},
            {(0, 0): ("?", 1, 2), (1, 2): ("?", 0, 0)},
            {(0, 0): HOLE, (1, 2): ("fork", HOLE, ("?", 5, 5))},
        ):
            before = copy.deepcopy(table)
            for pattern in PATTERNS:
                self.assertEqual(filled(pattern, table), plainly_filled(pattern, table))
            self.assertEqual(table, before)

    def test_filled_examples(self):
        self.assertEqual(filled(CALL, {(0, 0): EXAMPLE}), EXAMPLE)
        self.assertEqual(filled(EXAMPLE, {}), EXAMPLE)
        self.assertEqual(filled(("twig", CALL), {(0, 0): CALL, (9, 9): LEAF}), ("twig", CALL))

    def test_filled_by_great_things(self):
        made = filled(chain(60, CALL), {(0, 0): chain(60)})
        self.assertEqual((knots_of(made), tall_of(made)), (119, 119))
        many = filled(broad(4000, CALL), {(0, 0): broad(3)})
        self.assertEqual(many, plainly_filled(broad(4000, CALL), {(0, 0): broad(3)}))


class Fronts(unittest.TestCase):
    def test_holes_in(self):
        self.assertEqual(holes_in(HOLE), [()])
        self.assertEqual(holes_in(EXAMPLE), [])
        self.assertEqual(holes_in(("fork", ("twig", HOLE), HOLE)), [(0, 0), (1,)])
        for front in FRONTS + UNLIKE:
            wished = [place for place, part in sorted(spots(front).items()) if part == HOLE]
            self.assertEqual(holes_in(front), wished)

    def test_lies_on_examples(self):
        self.assertIs(lies_on(HOLE, EXAMPLE), True)
        self.assertIs(lies_on(HOLE, CALL), True)
        self.assertIs(lies_on(HOLE, HOLE), True)
        self.assertIs(lies_on(LEAF, HOLE), False)
        self.assertIs(lies_on(LEAF, CALL), False)
        self.assertIs(lies_on(EXAMPLE, EXAMPLE), True)
        self.assertIs(lies_on(("fork", HOLE, ("twig", HOLE)), EXAMPLE), True)
        self.assertIs(lies_on(("fork", ("twig", HOLE), HOLE), EXAMPLE), False)

    def test_lies_on_by_places(self):
        for front in FRONTS:
            for thing in FRONTS + PATTERNS:
                self.assertIs(lies_on(front, thing), plainly_lies(front, thing), (front, thing))

    def test_lies_on_knots_of_one_name_with_unlike_counts_of_kids(self):
        self.assertIs(lies_on(("a", HOLE), ("a",)), False)
        self.assertIs(lies_on(("a",), ("a", HOLE)), False)
        self.assertIs(lies_on(("b", ("a", HOLE), HOLE), ("b", ("a", HOLE, HOLE), HOLE)), False)
        self.assertIs(lies_on(("a",) + (HOLE,) * 5, ("a",) + (CALL,) * 5), True)
        self.assertIs(lies_on(("a",) + (HOLE,) * 5, ("a",) + (CALL,) * 4), False)
        for front in UNLIKE:
            for thing in UNLIKE:
                self.assertIs(lies_on(front, thing), plainly_lies(front, thing), (front, thing))

    def test_common_examples(self):
        self.assertEqual(common(EXAMPLE, EXAMPLE), EXAMPLE)
        self.assertEqual(common(EXAMPLE, ("fork", LEAF, LEAF)), ("fork", LEAF, HOLE))
        self.assertEqual(common(CALL, CALL), HOLE)
        self.assertEqual(common(HOLE, HOLE), HOLE)
        self.assertEqual(common(("twig", CALL), ("twig", CALL)), ("twig", HOLE))
        self.assertEqual(common(LEAF, CALL), HOLE)
        self.assertEqual(common(EXAMPLE, HOLE), HOLE)

    def test_common_by_places(self):
        for one in FRONTS + PATTERNS:
            for two in FRONTS + PATTERNS:
                self.assertEqual(common(one, two), plainly_common(one, two), (one, two))

    def test_common_of_knots_of_one_name_with_unlike_counts_of_kids(self):
        self.assertEqual(common(("a", ("b",)), ("a", ("b",), ("b",))), HOLE)
        self.assertEqual(common(("a",), ("a", ("a",))), HOLE)
        self.assertEqual(common(("b", ("a",), ("a",)), ("b", ("a", ("a",)), ("a",))), ("b", HOLE, ("a",)))
        four = ("a",) + (("a",),) * 4
        self.assertEqual(common(four, ("a", ("b",)) + (("a",),) * 3), ("a", HOLE) + (("a",),) * 3)
        for one in UNLIKE:
            for two in UNLIKE:
                self.assertEqual(common(one, two), plainly_common(one, two), (one, two))

    def test_common_is_the_greatest_front_that_lies_on_both(self):
        small = things_of(KNOTS + [(HOLE, 0)], 3)
        things = things_of(KNOTS + [(HOLE, 0), (CALL, 0)], 3)
        for one in things:
            for two in things:
                told = common(one, two)
                self.assertTrue(lies_on(told, one) and lies_on(told, two))
                for front in small:
                    if plainly_lies(front, one) and plainly_lies(front, two):
                        self.assertTrue(plainly_lies(front, told), (one, two, front))

    def test_parts_and_hung(self):
        for front in FRONTS + UNLIKE:
            for thing in FRONTS + PATTERNS + UNLIKE:
                if plainly_lies(front, thing):
                    found = spots(thing)
                    parts = parts_at(front, thing)
                    self.assertEqual(parts, [found[place] for place in holes_in(front)])
                    before = copy.deepcopy(parts)
                    self.assertEqual(hung(front, parts), thing)
                    self.assertEqual(parts, before)

    def test_hung_in_order(self):
        front = ("fork", ("twig", HOLE), ("fork", HOLE, HOLE))
        parts = [("x",), CALL, ("fork", HOLE, ("y",))]
        wished = ("fork", ("twig", ("x",)), ("fork", CALL, ("fork", HOLE, ("y",))))
        self.assertEqual(hung(front, parts), wished)
        self.assertEqual(parts_at(front, wished), parts)
        self.assertEqual(hung(HOLE, [EXAMPLE]), EXAMPLE)
        self.assertEqual(hung(EXAMPLE, []), EXAMPLE)
        self.assertEqual(hung(front, [HOLE, HOLE, HOLE]), front)
        self.assertEqual(parts_at(HOLE, EXAMPLE), [EXAMPLE])
        self.assertEqual(parts_at(EXAMPLE, EXAMPLE), [])

    def test_lists_are_the_askers_own(self):
        front = ("fork", HOLE, LEAF)
        holes_in(front).clear()
        parts_at(front, ("fork", LEAF, LEAF)).clear()
        self.assertEqual(holes_in(front), [(0,)])
        self.assertEqual(parts_at(front, ("fork", LEAF, LEAF)), [LEAF])

    def test_great_fronts(self):
        wide = broad(4000, HOLE)
        holes = holes_in(wide)
        self.assertEqual(len(holes), 4000 - knots_of(wide))
        self.assertEqual(holes, sorted(holes))
        parts = [("bud", ("?", number, 0)) for number in range(len(holes))]
        made = hung(wide, parts)
        self.assertEqual(parts_at(wide, made), parts)
        self.assertIs(lies_on(wide, made), True)
        self.assertEqual(common(wide, made), wide)
        self.assertEqual([call[0] for place, call in calls_in(made)], list(range(len(holes))))

    def test_taller_than_a_recursion_may_be_deep(self):
        front = chain(3000, HOLE)
        tree = chain(3000)
        self.assertEqual(holes_in(front), [(0,) * 2999])
        self.assertEqual(calls_in(chain(3000, CALL)), [((0,) * 2999, (0, 0))])
        self.assertIs(lies_on(front, tree), True)
        self.assertIs(lies_on(tree, front), False)
        self.assertEqual(parts_at(front, tree), [LEAF])
        self.assertEqual(holes_in(common(tree, front)), [(0,) * 2999])
        self.assertEqual((knots_of(hung(front, [tree])), tall_of(front)), (5999, 3000))
        self.assertEqual(tall_of(filled(chain(3000, CALL), {(0, 0): tree})), 5999)
        self.assertIs(fits_pattern(KINDS, chain(3000, CALL), 1, 1), True)
