import copy
import unittest

from boughbook.errors import NoKinds, NoPlace
from boughbook.trees import fits, kinds_of, knot_at, knots, many_of, places, put_at, tall
from tests.growing import EXAMPLE, KINDS, broad, chain, check_refused, spots, trees_of

GREAT_NUMBERS = [10 ** 30, -10 ** 30, 2 ** 63, -2 ** 63, 2 ** 64, 10 ** 5000, -10 ** 5000]


class Kinds(unittest.TestCase):
    def test_kinds_are_tuples_in_the_order_handed_in(self):
        pairs = [("leaf", 0), ("twig", 1), ("fork", 2)]
        for handed in (pairs, tuple(pairs)):
            told = kinds_of(handed)
            self.assertEqual(told, KINDS)
            self.assertIs(type(told), tuple)
            self.assertEqual([type(pair) for pair in told], [tuple] * 3)
        self.assertEqual(kinds_of(pairs[::-1]), KINDS[::-1])

    def test_what_is_handed_in_stays_and_the_kinds_are_the_askers_own(self):
        pairs = [("leaf", 0), ("twig", 1)]
        before = copy.deepcopy(pairs)
        told = kinds_of(pairs)
        self.assertEqual(pairs, before)
        pairs.append(("fork", 2))
        self.assertEqual(told, (("leaf", 0), ("twig", 1)))

    def test_names_have_one_to_eight_letters(self):
        for name in ("a", "z", "az", "abcdefg", "abcdefgh", "zzzzzzzz"):
            self.assertEqual(kinds_of([(name, 0)]), ((name, 0),))
        for name in ("", "abcdefghi", "a" * 1000):
            check_refused(self, NoKinds, kinds_of, [(name, 0)])
            check_refused(self, NoKinds, kinds_of, [("leaf", 0), (name, 1)])

    def test_names_have_letters_a_to_z_alone(self):
        wrong = ["A", "Leaf", "leaF", "a1", "1", "a_b", "_", "a b", " a", "a ", "?", "*", "a,", "a(", "`", "{", "-"]
        wrong += ["\u00e4", "\u00df", "\u0430", "\u00aa", "a\n", "\n", "a\t"]
        for name in wrong:
            check_refused(self, NoKinds, kinds_of, [("leaf", 0), (name, 0)])

    def test_one_to_eight_kinds(self):
        pairs = [(letter, 0) for letter in "abcdefghi"]
        for many in range(1, 9):
            self.assertEqual(kinds_of(pairs[:many]), tuple(pairs[:many]))
        for wrong in ([], (), pairs, tuple(pairs), [(chr(97 + k // 26) + chr(97 + k % 26), 0) for k in range(500)]):
            check_refused(self, NoKinds, kinds_of, wrong)

    def test_many_is_from_0_to_3(self):
        for many in range(4):
            self.assertEqual(kinds_of([("leaf", 0), ("knot", many)]), (("leaf", 0), ("knot", many)))
        for many in [-1, 4, -3, 5, 100] + GREAT_NUMBERS:
            check_refused(self, NoKinds, kinds_of, [("leaf", 0), ("knot", many)])

    def test_true_and_false_are_no_numbers(self):
        check_refused(self, NoKinds, kinds_of, [("leaf", 0), ("knot", True)])
        check_refused(self, NoKinds, kinds_of, [("leaf", 0), ("knot", False)])

    def test_no_name_stands_twice(self):
        check_refused(self, NoKinds, kinds_of, [("leaf", 0), ("leaf", 0)])
        check_refused(self, NoKinds, kinds_of, [("leaf", 0), ("twig", 1), ("leaf", 2)])
        check_refused(self, NoKinds, kinds_of, [("leaf", 0), ("twig", 1), ("twig", 1)])

    def test_at_least_one_many_is_0(self):
        check_refused(self, NoKinds, kinds_of, [("twig", 1)])
        check_refused(self, NoKinds, kinds_of, [("twig", 1), ("fork", 2), ("claw", 3)])
        self.assertEqual(kinds_of([("twig", 1), ("leaf", 0)]), (("twig", 1), ("leaf", 0)))

    def test_many_of(self):
        self.assertEqual([many_of(KINDS, name) for name in ("leaf", "twig", "fork")], [0, 1, 2])
        for name in ("lea", "leaff", "Leaf", "", "?", "*", "claw"):
            self.assertEqual(many_of(KINDS, name), -1)

    def test_many_of_names_that_are_beginnings_of_one_another(self):
        kinds = kinds_of([("aaa", 3), ("a", 0), ("aa", 2), ("aaaa", 1)])
        self.assertEqual([many_of(kinds, "a" * length) for length in range(6)], [-1, 0, 2, 3, 1, -1])


class Trees(unittest.TestCase):
    def test_fits_trees_over_the_kinds(self):
        for tree in trees_of(KINDS, 6):
            self.assertIs(fits(KINDS, tree), True)

    def test_fits_by_names_and_counts_of_kids(self):
        leaf = ("leaf",)
        wrong = [("bud",), ("leaf", leaf), ("twig",), ("twig", leaf, leaf), ("fork", leaf), ("fork",)]
        wrong += [("fork", leaf, leaf, leaf), ("",), ("lea",), ("leafs",), ("*",), ("twigs", leaf), ("?", leaf)]
        for thing in wrong:
            self.assertIs(fits(KINDS, thing), False, thing)
            for place in places(EXAMPLE):
                self.assertIs(fits(KINDS, put_at(EXAMPLE, place, thing)), False, (place, thing))

    def test_fits_is_of_the_kinds_handed_in(self):
        every = trees_of((("leaf", 0), ("twig", 1), ("fork", 2), ("twin", 2)), 5)
        for kinds in (KINDS, (("leaf", 0), ("twin", 2)), (("twig", 1), ("leaf", 0)), (("leaf", 0),)):
            right = set(trees_of(kinds, 5))
            for tree in every:
                self.assertIs(fits(kinds, tree), tree in right, (kinds, tree))

    def test_fits_names_that_are_beginnings_of_one_another(self):
        kinds = (("a", 1), ("aa", 0))
        self.assertIs(fits(kinds, ("a", ("aa",))), True)
        self.assertIs(fits(kinds, ("aa", ("a",))), False)
        self.assertIs(fits(kinds, ("a", ("a",))), False)

    def test_knots_and_tall_of_the_example(self):
        self.assertEqual((knots(EXAMPLE), tall(EXAMPLE)), (4, 3))
        self.assertEqual((knots(("leaf",)), tall(("leaf",))), (1, 1))

    def test_knots_and_tall_by_places(self):
        for tree in trees_of(KINDS, 7):
            found = spots(tree)
            self.assertEqual(knots(tree), len(found))
            self.assertEqual(tall(tree), 1 + max(len(place) for place in found))

    def test_a_tree_that_stands_in_several_places_is_counted_in_each(self):
        tree = ("leaf",)
        for _ in range(10):
            tree = ("fork", tree, tree)
        self.assertEqual((knots(tree), tall(tree)), (2 ** 11 - 1, 11))

    def test_great_trees(self):
        self.assertEqual((knots(chain(150)), tall(chain(150))), (150, 150))
        self.assertEqual((knots(broad(2500)), len(places(broad(2500)))), (2500, 2500))
        tree = chain(139, broad(2362))
        self.assertEqual((knots(tree), tall(tree), fits(KINDS, tree)), (2500, 150, True))

    def test_taller_than_a_recursion_may_be_deep(self):
        tree = chain(3000)
        self.assertIs(fits(KINDS, tree), True)
        self.assertIs(fits(KINDS, chain(3000, ("bud",))), False)
        self.assertEqual((knots(tree), tall(tree), len(places(tree))), (3000, 3000, 3000))
        bottom = (0,) * 2999
        self.assertEqual(knot_at(tree, bottom), ("leaf",))
        self.assertEqual(knot_at(put_at(tree, bottom, ("bud",)), bottom), ("bud",))


class Places(unittest.TestCase):
    def test_the_example(self):
        self.assertEqual(places(EXAMPLE), [(), (0,), (1,), (1, 0)])
        self.assertEqual(knot_at(EXAMPLE, ()), EXAMPLE)
        self.assertEqual(knot_at(EXAMPLE, (1,)), ("twig", ("leaf",)))
        self.assertEqual(knot_at(EXAMPLE, (1, 0)), ("leaf",))
        self.assertEqual(places(("leaf",)), [()])

    def test_places_are_ascending_and_lead_to_all_knots(self):
        for tree in trees_of((("leaf", 0), ("twig", 1), ("fork", 2), ("claw", 3)), 6):
            found = spots(tree)
            told = places(tree)
            self.assertEqual(told, sorted(found))
            for place in told:
                self.assertEqual(knot_at(tree, place), found[place])

    def test_put_at_every_place(self):
        other = ("twig", ("bud",))
        for tree in trees_of(KINDS, 6):
            found = spots(tree)
            for place in found:
                wished = {at: part[:1] for at, part in found.items() if at[:len(place)] != place}
                wished.update({place: ("twig",), place + (0,): ("bud",)})
                made = put_at(tree, place, other)
                self.assertEqual({at: part[:1] for at, part in spots(made).items()}, wished)

    def test_put_at_examples(self):
        self.assertEqual(put_at(EXAMPLE, (), ("bud",)), ("bud",))
        self.assertEqual(put_at(EXAMPLE, (0,), ("bud",)), ("fork", ("bud",), ("twig", ("leaf",))))
        self.assertEqual(put_at(EXAMPLE, (1,), ("bud",)), ("fork", ("leaf",), ("bud",)))
        self.assertEqual(put_at(EXAMPLE, (1, 0), EXAMPLE), ("fork", ("leaf",), ("twig", EXAMPLE)))

    def test_places_that_the_tree_does_not_have(self):
        for tree in trees_of(KINDS, 4):
            for place, part in spots(tree).items():
                kids = len(part) - 1
                for number in [kids, kids + 1, -1, -2, -kids, -kids - 1] + GREAT_NUMBERS:
                    if not 0 <= number < kids:
                        for beyond in (place + (number,), place + (number, 0)):
                            check_refused(self, NoPlace, knot_at, tree, beyond)
                            check_refused(self, NoPlace, put_at, tree, beyond, ("leaf",))

    def test_long_places(self):
        check_refused(self, NoPlace, knot_at, EXAMPLE, (1, 0) + (0,) * 5000)
        check_refused(self, NoPlace, put_at, EXAMPLE, (1,) * 5000, ("leaf",))

    def test_true_and_false_are_no_numbers(self):
        check_refused(self, NoPlace, knot_at, EXAMPLE, (True,))
        check_refused(self, NoPlace, put_at, EXAMPLE, (False,), ("leaf",))

    def test_the_list_of_places_is_the_askers_own(self):
        told = places(EXAMPLE)
        told.clear()
        self.assertEqual(places(EXAMPLE), [(), (0,), (1,), (1, 0)])
        told = places(EXAMPLE)
        places(("leaf",))
        self.assertEqual(told, [(), (0,), (1,), (1, 0)])
