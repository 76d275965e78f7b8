import unittest

from boughbook.errors import NoTree
from boughbook.trees import knots, tall
from boughbook.treetext import read_tree, shown_tree
from tests.growing import EXAMPLE, EXAMPLE_TEXT, KINDS, broad, chain, check_refused, trees_of

WORDS = ["fork", "(", "leaf", ",", "twig", "(", "leaf", ")", ")"]
ALL_KINDS = (("claw", 3),) + KINDS


def plainly_shown(tree):
    if len(tree) == 1:
        return tree[0]
    return tree[0] + "(" + ",".join(plainly_shown(kid) for kid in tree[1:]) + ")"


class Shown(unittest.TestCase):
    def test_the_example(self):
        self.assertEqual(shown_tree(EXAMPLE), EXAMPLE_TEXT)
        self.assertEqual(shown_tree(("leaf",)), "leaf")
        self.assertEqual(shown_tree(("claw", ("a",), ("b", ("c",)), ("d",))), "claw(a,b(c),d)")

    def test_small_trees(self):
        for tree in trees_of(ALL_KINDS, 6):
            self.assertEqual(shown_tree(tree), plainly_shown(tree))

    def test_tall_trees(self):
        for height in (150, 599, 600, 601, 3000):
            wished = "twig(" * (height - 1) + "leaf" + ")" * (height - 1)
            self.assertEqual(shown_tree(chain(height)), wished)

    def test_many_knots(self):
        self.assertEqual(shown_tree(broad(2500)), plainly_shown(broad(2500)))


class Read(unittest.TestCase):
    def check_read(self, text, tree, kinds=KINDS):
        self.assertEqual(read_tree(kinds, text), tree, text)

    def check_no_tree(self, text, kinds=KINDS):
        check_refused(self, NoTree, read_tree, kinds, text)

    def test_the_example(self):
        self.check_read(EXAMPLE_TEXT, EXAMPLE)
        self.check_read("leaf", ("leaf",))

    def test_small_trees(self):
        for tree in trees_of(ALL_KINDS, 6):
            self.check_read(plainly_shown(tree), tree, ALL_KINDS)

    def test_blanks_anywhere_but_within_a_name(self):
        for at in range(len(EXAMPLE_TEXT) + 1):
            for blanks in (" ", "   ", " " * 1000):
                text = EXAMPLE_TEXT[:at] + blanks + EXAMPLE_TEXT[at:]
                within = EXAMPLE_TEXT[at - 1:at].isalpha() and EXAMPLE_TEXT[at:at + 1].isalpha()
                if within:
                    self.check_no_tree(text)
                else:
                    self.check_read(text, EXAMPLE)
        self.check_read("  fork ( leaf ,  twig(  leaf ) )   ", EXAMPLE)

    def test_no_sign_that_a_tree_does_not_have(self):
        for at in range(len(EXAMPLE_TEXT) + 1):
            for code in range(33, 127):
                self.check_no_tree(EXAMPLE_TEXT[:at] + chr(code) + EXAMPLE_TEXT[at:])

    def test_no_other_signs_as_blanks(self):
        for sign in "\n\t\r\f\v\u00a0\u2003":
            for text in ("leaf" + sign, sign + "leaf", "twig(" + sign + "leaf)"):
                self.check_no_tree(text)

    def test_a_sign_left_out(self):
        for at in range(len(EXAMPLE_TEXT)):
            self.check_no_tree(EXAMPLE_TEXT[:at] + EXAMPLE_TEXT[at + 1:])

    def test_words_left_out_put_in_and_exchanged(self):
        right = {plainly_shown(tree): tree for tree in trees_of(KINDS, 5)}
        every = ["leaf", "twig", "fork", "bud", "(", ")", ","]
        texts = []
        for at in range(len(WORDS) + 1):
            texts.append(WORDS[:at] + WORDS[at + 1:])
            texts += [WORDS[:at] + [word] + WORDS[at:] for word in every]
            texts += [WORDS[:at] + [word] + WORDS[at + 1:] for word in every]
        for words in texts:
            tree = right.get("".join(words))
            # Blanks between keep two names that come to stand together from being one.
            if tree is None:
                self.check_no_tree(" ".join(words))
            else:
                self.check_read(" ".join(words), tree)

    def test_all_texts_of_few_words(self):
        right = {plainly_shown(tree): tree for tree in trees_of((("a", 0), ("b", 1), ("c", 2)), 3)}
        texts = [""]
        for _ in range(6):
            texts = texts + [text + sign for text in texts if len(text) == len(texts[-1]) for sign in "abc(),"]
        for text in texts:
            if text in right:
                self.check_read(text, right[text], (("a", 0), ("b", 1), ("c", 2)))
            else:
                with self.assertRaises(NoTree):
                    read_tree((("a", 0), ("b", 1), ("c", 2)), text)

    def test_wrong_texts(self):
        wrong = ["", " ", "     ", "()", "(", ")", ",", "leaf()", "leaf( )", "leaf(leaf)", "twig", "twig()", "twig(,)"]
        wrong += ["twig(leaf", "twig(leaf))", "twig leaf", "twig(leaf,)", "twig(,leaf)", "(leaf)", "twig((leaf))"]
        wrong += ["fork(leaf)", "fork(leaf leaf)", "fork(leaf,leaf,leaf)", "fork(leaf,,leaf)", "fork(leaf,leaf"]
        wrong += ["leaf leaf", "leaf,leaf", "leaf,", ",leaf", "le af", "Leaf", "LEAF", "leaves", "lea", "bud", "leaf1"]
        wrong += ["0.0", "*", "?", "twig(0.0)", "twig(*)", "twig[leaf]", "'leaf'", "leaf;", "fork(leaf;leaf)"]
        wrong += ["abcdefghi", "a" * 20000]
        for text in wrong:
            self.check_no_tree(text)

    def test_names_that_are_beginnings_of_one_another(self):
        kinds = (("a", 1), ("aa", 0), ("aaa", 2))
        self.check_read("aaa(a(aa),aa)", ("aaa", ("a", ("aa",)), ("aa",)), kinds)
        self.check_read("a(a(aa))", ("a", ("a", ("aa",))), kinds)
        for text in ("a", "a(a)", "a a", "aaaa", "aa(a)", "aaa(aa)", "a(a a)", "a(aa", "a(aaa)", "a (a a)"):
            self.check_no_tree(text, kinds)

    def test_just_30_and_31_tall(self):
        for height in (1, 29, 30):
            self.check_read(shown_tree(chain(height)), chain(height))
        for height in (31, 32, 100):
            self.check_no_tree(shown_tree(chain(height)))
        self.check_read(shown_tree(("fork", ("leaf",), chain(29))), ("fork", ("leaf",), chain(29)))
        self.check_no_tree(shown_tree(("fork", chain(30), ("leaf",))))
        self.check_no_tree(shown_tree(("fork", ("leaf",), chain(30))))

    def test_just_400_and_401_knots(self):
        for parts in (399, 400):
            self.check_read(shown_tree(broad(parts)), broad(parts))
        for parts in (401, 402, 2500):
            self.check_no_tree(shown_tree(broad(parts)))

    def test_both_bounds_at_once(self):
        tree = ("fork", chain(29), broad(370))
        self.assertEqual((knots(tree), tall(tree)), (400, 30))
        self.check_read(shown_tree(tree), tree)
        self.check_no_tree(shown_tree(("fork", chain(29), broad(371))))
        self.check_no_tree(shown_tree(("fork", chain(30), broad(369))))

    def test_a_thousand_brackets_and_more(self):
        for many in (1000, 3000, 3999):
            self.check_no_tree("twig(" * many)
            self.check_no_tree("twig(" * many + "leaf")
            self.check_no_tree("leaf" + ")" * many)
            self.check_no_tree("(" * many)
            self.check_no_tree("(" * many + "leaf" + ")" * many)
            self.check_no_tree("fork(" * many)
        for height in (1001, 3300):
            self.check_no_tree(shown_tree(chain(height)))
        self.check_no_tree("(" * 20000)
        self.check_no_tree(")" * 20000)
        self.check_no_tree("," * 20000)

    def test_long_texts(self):
        text = " " * 10000 + EXAMPLE_TEXT
        self.check_read(text + " " * (20000 - len(text)), EXAMPLE)
        self.check_no_tree(" " * 20000)
