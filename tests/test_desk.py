import unittest

from boughbook.alike import parted
from boughbook.booktext import read_book, shown_book
from boughbook.desk import Desk
from boughbook.errors import BookError, Great, Many, NoBook, NoKinds, NoName, NoText, NoTree, NotOne
from boughbook.least import least
from boughbook.running import turned
from boughbook.trees import knots, tall
from boughbook.treetext import read_tree, shown_tree
from tests.growing import (
    DOUBLE, EXAMPLE, EXAMPLE_TEXT, KINDS, LAST, LEAF, MIRROR, SAME, TURNS, broad, call, chain, check_refused,
    forked, giving, some_books, spots,
)

BOOKS = {"same": SAME, "mirror": MIRROR, "last": LAST, "double": DOUBLE, "turns": TURNS}
TWO = (("b", 1), ("a", 0))
# From the kinds to others: a chain of b as tall as the leftmost path.
LEFT = (KINDS, TWO, call(0), ((("a",), ("b", call(0)), ("b", call(0))),))
TENFOLD = (KINDS, KINDS, call(0), ((LEAF, chain(11, call(0)), LEAF),))
# It makes of the second kid of a fork always the same.
SHORT = (KINDS, KINDS, call(0), ((LEAF, ("twig", call(0)), ("fork", call(0), ("twig", LEAF))),))
BOOKS_TOLD = dict(BOOKS, short=SHORT)
TOO_GREAT = (KINDS, KINDS, ("fork", broad(200), call(0)), ((broad(200),) * 3,))
TOO_MANY = (KINDS, KINDS, call(0), ((forked([LEAF] * 21), forked([EXAMPLE] * 21), forked([LEAF] * 21)),))

SAME_TEXT = """in leaf/0 twig/1 fork/2
out leaf/0 twig/1 fork/2
head 0.0
rule 0 leaf leaf
rule 0 twig twig(0.0)
rule 0 fork fork(0.0,0.1)"""


def smallest(kinds):
    """A tree of one knot."""
    return [(name,) for name, many in kinds if many == 0][0]


def desk_of(books):
    desk = Desk()
    for name, book in books.items():
        desk.take(name, shown_book(book))
    return desk


class Held(unittest.TestCase):
    def test_a_fresh_desk_holds_nothing(self):
        self.assertEqual(Desk().names(), [])
        check_refused(self, NoName, Desk().drop, "same")

    def test_books_are_taken(self):
        desk = Desk()
        self.assertIsNone(desk.take("same", SAME_TEXT))
        self.assertEqual(desk.names(), ["same"])
        self.assertEqual(desk.turn(["same"], EXAMPLE_TEXT), EXAMPLE_TEXT)
        desk.take("mirror", "  in leaf/0  twig/1 fork/2" + shown_book(MIRROR)[len("in leaf/0 twig/1 fork/2"):])
        self.assertEqual(desk.turn(["mirror"], EXAMPLE_TEXT), "fork(twig(leaf),leaf)")
        self.assertEqual(desk.names(), ["mirror", "same"])

    def test_names_ascending(self):
        desk = Desk()
        for name in ("b", "", "a b", "a", "B", "b2", "10", "9", "b\n"):
            desk.take(name, SAME_TEXT)
        self.assertEqual(desk.names(), sorted(["b", "", "a b", "a", "B", "b2", "10", "9", "b\n"]))
        self.assertEqual(desk.turn(["", "a b", "b\n"], EXAMPLE_TEXT), EXAMPLE_TEXT)

    def test_another_book_under_an_old_name(self):
        desk = desk_of(BOOKS)
        desk.take("same", shown_book(MIRROR))
        self.assertEqual(desk.names(), sorted(BOOKS))
        self.assertEqual(desk.turn(["same"], EXAMPLE_TEXT), "fork(twig(leaf),leaf)")
        self.assertEqual(desk.told_alike("same", "mirror"), "alike")

    def test_a_book_is_dropped(self):
        desk = desk_of(BOOKS)
        self.assertIsNone(desk.drop("mirror"))
        self.assertEqual(desk.names(), ["double", "last", "same", "turns"])
        check_refused(self, NoName, desk.turn, ["mirror"], EXAMPLE_TEXT)
        check_refused(self, NoName, desk.drop, "mirror")
        self.assertEqual(desk.names(), ["double", "last", "same", "turns"])
        desk.take("mirror", shown_book(SAME))
        self.assertEqual(desk.turn(["mirror"], EXAMPLE_TEXT), EXAMPLE_TEXT)

    def test_a_text_that_take_refuses(self):
        desk = desk_of(BOOKS)
        texts = (
            (NoText, ""), (NoText, SAME_TEXT + "\n"), (NoText, SAME_TEXT.replace("head", "heads")),
            (NoText, SAME_TEXT.replace("0.1", "0.01")), (NoKinds, SAME_TEXT.replace("in leaf/0 ", "in leaf/4 ")),
            (NoKinds, SAME_TEXT.replace("out leaf/0 twig/1", "out leaf/0 leaf/1")),
            (NoBook, SAME_TEXT.replace("0.1", "0.2")), (NoBook, SAME_TEXT.replace("head 0.0", "head 1.0")),
            (NoBook, SAME_TEXT.replace("twig(0.0)", "twigs(0.0)")),
        )
        for refusal, text in texts:
            for name in ("same", "mirror", "fresh"):
                check_refused(self, refusal, desk.take, name, text)
                self.assertEqual(desk.names(), sorted(BOOKS))
                for held, book in BOOKS.items():
                    self.assertEqual(desk.turn([held], EXAMPLE_TEXT), shown_tree(turned(book, EXAMPLE)))

    def test_two_desks_know_nothing_of_one_another(self):
        one, two = Desk(), Desk()
        one.take("a", shown_book(SAME))
        self.assertEqual((one.names(), two.names()), (["a"], []))
        two.take("a", shown_book(MIRROR))
        two.take("b", shown_book(LAST))
        self.assertEqual((one.names(), two.names()), (["a"], ["a", "b"]))
        self.assertEqual(one.turn(["a"], EXAMPLE_TEXT), EXAMPLE_TEXT)
        self.assertEqual(two.turn(["a"], EXAMPLE_TEXT), "fork(twig(leaf),leaf)")
        one.drop("a")
        self.assertEqual((one.names(), two.names()), ([], ["a", "b"]))

    def test_the_names_told_are_the_askers_own(self):
        desk = desk_of(BOOKS)
        told = desk.names()
        told.clear()
        desk.names().append("more")
        self.assertEqual(desk.names(), sorted(BOOKS))
        kept = desk.names()
        desk.drop("same")
        self.assertEqual(kept, sorted(BOOKS))

    def test_the_row_of_names_handed_in_stays(self):
        desk = desk_of(BOOKS)
        names = ["mirror", "double", "mirror"]
        desk.turn(names, EXAMPLE_TEXT)
        self.assertEqual(names, ["mirror", "double", "mirror"])


class Turn(unittest.TestCase):
    def test_no_names_leave_the_text_as_it_is(self):
        for desk in (Desk(), desk_of(BOOKS)):
            for text in (EXAMPLE_TEXT, "", " leaf ", "no tree(", "a\nb"):
                self.assertEqual(desk.turn([], text), text)

    def test_one_name(self):
        desk = desk_of(BOOKS)
        for name, book in BOOKS.items():
            for tree in (LEAF, EXAMPLE, chain(4), broad(9)):
                self.assertEqual(desk.turn([name], shown_tree(tree)), shown_tree(turned(book, tree)))
        self.assertEqual(desk.turn(["mirror"], " fork ( leaf , twig(leaf) ) "), "fork(twig(leaf),leaf)")

    def test_several_names(self):
        desk = desk_of(BOOKS)
        for first in BOOKS:
            for second in BOOKS:
                for third in ("mirror", "turns"):
                    wished = EXAMPLE
                    for name in (first, second, third):
                        wished = turned(BOOKS[name], wished)
                    self.assertEqual(desk.turn([first, second, third], EXAMPLE_TEXT), shown_tree(wished))
        self.assertEqual(desk.turn(["mirror"] * 50, EXAMPLE_TEXT), EXAMPLE_TEXT)

    def test_other_kinds_on_the_way(self):
        back = (TWO, KINDS, ("twig", call(0)), ((("fork", LEAF, call(0)), LEAF),))
        desk = desk_of({"left": LEFT, "back": back, "mirror": MIRROR})
        self.assertEqual(desk.turn(["mirror", "left"], EXAMPLE_TEXT), "b(b(a))")
        self.assertEqual(desk.turn(["mirror", "left", "back"], EXAMPLE_TEXT), "twig(fork(leaf,fork(leaf,leaf)))")
        self.assertEqual(desk.turn(["back", "left"], "b(a)"), "b(b(a))")

    def test_trees_between_as_great_as_outcomes(self):
        desk = desk_of({"double": DOUBLE, "mirror": MIRROR, "tenfold": TENFOLD, "last": LAST, "same": SAME})
        tree = chain(10)
        self.assertEqual(knots(turned(DOUBLE, tree)), 1023)
        self.assertEqual(desk.turn(["double", "mirror"], shown_tree(tree)), shown_tree(turned(DOUBLE, tree)))
        self.assertEqual(desk.turn(["double", "last"], shown_tree(tree)), "leaf")
        tall_one = turned(TENFOLD, chain(15))
        self.assertEqual(tall(tall_one), 141)
        self.assertEqual(desk.turn(["tenfold", "same", "mirror"], shown_tree(chain(15))), shown_tree(tall_one))
        self.assertEqual(desk.turn(["tenfold", "last"], shown_tree(chain(15))), "leaf")

    def test_the_first_tree_is_bounded(self):
        desk = desk_of(BOOKS)
        for tree in (chain(30), broad(400), ("fork", chain(29), broad(370))):
            self.assertEqual(desk.turn(["same"], shown_tree(tree)), shown_tree(tree))
        for tree in (chain(31), broad(401), ("fork", chain(30), LEAF)):
            check_refused(self, NoTree, desk.turn, ["same"], shown_tree(tree))
            check_refused(self, NoTree, desk.turn, ["last", "same"], shown_tree(tree))

    def test_texts_that_write_no_tree(self):
        desk = desk_of({"same": SAME, "left": LEFT})
        for text in ("", "leaves", "fork(leaf)", "leaf,leaf", "twig(leaf", "b(a)", "0.0", "leaf\n"):
            check_refused(self, NoTree, desk.turn, ["same"], text)
            check_refused(self, NoTree, desk.turn, ["same", "left"], text)

    def test_names_that_are_not_held(self):
        desk = desk_of({"same": SAME, "left": LEFT})
        for names in (["none"], ["none", "same"], ["same", "none"], ["same", "same", "none"], ["", "same"], ["Same"]):
            check_refused(self, NoName, desk.turn, names, EXAMPLE_TEXT)

    def test_books_that_do_not_go_together(self):
        other = (KINDS[::-1], KINDS, call(0), (SAME[3][0][::-1],))
        desk = desk_of({"same": SAME, "left": LEFT, "other": other})
        rows = (["left", "same"], ["left", "left"], ["same", "other"], ["same", "left", "same"], ["other", "other"])
        for names in rows:
            check_refused(self, NotOne, desk.turn, names, EXAMPLE_TEXT)
        self.assertEqual(desk.turn(["other", "left"], EXAMPLE_TEXT), "b(a)")

    def test_too_great_book_by_book(self):
        desk = desk_of(dict(BOOKS, tenfold=TENFOLD, giving=(KINDS, KINDS, LEAF, ())))
        for names in (["double"], ["double", "last"], ["same", "double", "last"], ["double", "giving"]):
            check_refused(self, Great, desk.turn, names, shown_tree(chain(12)))
        self.assertEqual(desk.turn(["last", "double"], shown_tree(chain(12))), "leaf")
        check_refused(self, Great, desk.turn, ["tenfold", "tenfold"], shown_tree(chain(15)))
        check_refused(self, Great, desk.turn, ["tenfold"], shown_tree(chain(16)))
        self.assertEqual(desk.turn(["tenfold", "tenfold"], shown_tree(chain(2))), shown_tree(chain(101)))

    def test_the_first_refusal_goes_first(self):
        desk = desk_of({"double": DOUBLE, "same": SAME, "left": LEFT})
        deep = shown_tree(chain(12))
        for text in ("no tree", deep, EXAMPLE_TEXT):
            check_refused(self, NoName, desk.turn, ["left", "same", "none"], text)
            check_refused(self, NoName, desk.turn, ["double", "none"], text)
            check_refused(self, NoName, desk.turn, ["none", "left", "same"], text)
            check_refused(self, NotOne, desk.turn, ["double", "left", "same"], text)
        check_refused(self, NoTree, desk.turn, ["double"], "no tree")
        check_refused(self, NoTree, desk.turn, ["double"], shown_tree(chain(31)))
        check_refused(self, Great, desk.turn, ["double", "left"], deep)


class Told(unittest.TestCase):
    def check_parted(self, desk, one, two):
        """The text of what parts the books, held against what they make of the tree."""
        text = desk.told_alike(*sorted([one, two]))
        words = text.split(" ")
        self.assertEqual((words[:2], words[3]), (["parted", "by"], "at"))
        self.assertEqual(len(words), 5)
        books = [BOOKS_TOLD[name] for name in (one, two)]
        tree = read_tree(books[0][0], words[2])
        self.assertEqual(shown_tree(tree), words[2])
        place = () if words[4] == "top" else tuple(int(number) for number in words[4].split("."))
        names = [spots(turned(book, tree))[place][0] for book in books]
        self.assertNotEqual(*names)
        return text

    def test_alike(self):
        desk = desk_of(BOOKS)
        for name in BOOKS:
            self.assertEqual(desk.told_alike(name, name), "alike")
        desk.take("again", shown_book((KINDS, KINDS, call(1), ((LEAF, LEAF, LEAF),) + (
            (LEAF, ("twig", call(1)), ("fork", call(1), call(1, 1))),
        ))))
        self.assertEqual(desk.told_alike("again", "same"), "alike")
        self.assertEqual(desk.told_alike("same", "again"), "alike")

    def test_parted(self):
        desk = desk_of(BOOKS_TOLD)
        names = sorted(BOOKS_TOLD)
        told = [self.check_parted(desk, one, two) for one in names for two in names if one < two]
        self.assertTrue(any(text.endswith(" at top") for text in told))
        self.assertTrue(any(not text.endswith(" at top") for text in told))

    def test_parted_at_the_top_and_further_down(self):
        trees = {"a": LEAF, "b": EXAMPLE, "c": ("fork", LEAF, ("twig", ("twig", LEAF)))}
        desk = desk_of({name: giving(tree) for name, tree in trees.items()})
        self.assertEqual(desk.told_alike("a", "b"), "parted by leaf at top")
        self.assertEqual(desk.told_alike("b", "c"), "parted by leaf at 1.0")
        self.assertEqual(desk.told_alike("c", "b"), "parted by leaf at 1.0")
        desk.take("d", shown_book(giving(("fork", ("twig", LEAF), LEAF))))
        self.assertEqual(desk.told_alike("b", "d"), "parted by leaf at 0")

    def test_parted_as_the_function_tells(self):
        for book in some_books(60, seed=131, most=5):
            other = book[:2] + (smallest(book[1]), book[3])
            desk = desk_of({"one": book, "two": other})
            found = parted(book, other)
            if found is None:
                self.assertEqual(desk.told_alike("one", "two"), "alike")
            else:
                where = ".".join(str(each) for each in found[1]) or "top"
                self.assertEqual(desk.told_alike("one", "two"), f"parted by {shown_tree(found[0])} at {where}")

    def test_told_alike_refuses(self):
        desk = desk_of({"same": SAME, "left": LEFT, "great": TOO_GREAT, "many": TOO_MANY})
        for one, two in (("none", "same"), ("same", "none"), ("none", "nor"), ("great", "none"), ("none", "many")):
            check_refused(self, NoName, desk.told_alike, one, two)
        for one, two in (("same", "left"), ("left", "great"), ("many", "left")):
            check_refused(self, NotOne, desk.told_alike, one, two)
        check_refused(self, Great, desk.told_alike, "great", "same")
        check_refused(self, Great, desk.told_alike, "same", "great")
        check_refused(self, Great, desk.told_alike, "great", "many")
        check_refused(self, Many, desk.told_alike, "many", "great")
        self.assertEqual(desk.names(), ["great", "left", "many", "same"])

    def test_least(self):
        desk = desk_of({"same": SAME, "last": LAST})
        self.assertEqual(desk.told_least("same"), SAME_TEXT)
        self.assertEqual(desk.told_least("last"), "in leaf/0 twig/1 fork/2\nout leaf/0 twig/1 fork/2\nhead leaf")
        self.assertEqual(desk.turn(["last"], EXAMPLE_TEXT), "leaf")
        for book in some_books(60, seed=132):
            desk.take("book", shown_book(book))
            self.assertEqual(desk.told_least("book"), shown_book(least(book)))
            self.assertEqual(read_book(desk.told_least("book")), least(book))
            desk.take("least", desk.told_least("book"))
            self.assertEqual(desk.told_least("least"), desk.told_least("book"))
            self.assertEqual(desk.told_alike("least", "book"), "alike")

    def test_told_least_refuses(self):
        desk = desk_of({"great": TOO_GREAT, "many": TOO_MANY})
        check_refused(self, NoName, desk.told_least, "none")
        check_refused(self, Great, desk.told_least, "great")
        check_refused(self, Many, desk.told_least, "many")
        self.assertTrue(issubclass(NoName, BookError))
        self.assertEqual(desk.names(), ["great", "many"])
