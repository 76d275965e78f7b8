import copy
import re
import unittest

from boughbook.books import made_book
from boughbook.booktext import read_book, shown_book, shown_pattern
from boughbook.errors import BookError, NoBook, NoKinds, NoText
from tests.growing import (
    CLAWS, DOUBLE, EXAMPLE, EXAMPLE_TEXT, LAST, LEAF, MIRROR, SAME, TURNS, broad, call, chain, check_refused,
    forked, giving, some_books, things_of,
)

PATTERN = ("fork", call(0, 1), LEAF)
BOOK = (
    (("a", 0), ("b", 2)), (("leaf", 0), ("fork", 2)), ("fork", LEAF, call(1)),
    ((LEAF, ("fork", call(0, 1), LEAF)), (("fork", LEAF, LEAF), call(1, 0))),
)
ROWS = [
    "in a/0 b/2", "out leaf/0 fork/2", "head fork(leaf,1.0)",
    "rule 0 a leaf", "rule 0 b fork(0.1,leaf)", "rule 1 a fork(leaf,leaf)", "rule 1 b 1.0",
]
TEXT = "\n".join(ROWS)
NUMBER = "(?:0|[1-9][0-9]{0,2})"
NAME = "[a-z]{1,8}"


def plainly_shown(pattern):
    if pattern[0] == "?":
        return "%d.%d" % pattern[1:]
    return pattern[0] + ("(" + ",".join(plainly_shown(kid) for kid in pattern[1:]) + ")" if pattern[1:] else "")


def plain_pattern(text):
    """The pattern that a text writes and what stands behind it, or None; straight by the document's words."""
    found = re.match(f" *({NUMBER}) *\\. *({NUMBER})(?![0-9]) *", text)
    if found:
        return ("?", int(found[1]), int(found[2])), text[found.end():]
    found = re.match(f" *({NAME})(?![a-z]) *", text)
    if not found:
        return None
    thing, rest = (found[1],), text[found.end():]
    if rest[:1] != "(":
        return thing, rest
    while rest[:1] == ("(" if len(thing) == 1 else ","):
        inner = plain_pattern(rest[1:])
        if not inner:
            return None
        thing, rest = thing + (inner[0],), inner[1]
    return (thing, re.sub("^ *", "", rest[1:])) if rest[:1] == ")" else None


def plain_parts(text):
    """What the rows of a text tell of a book, or None where they are not as points 40 and 41 tell."""
    rows = text.split("\n")
    kinds = []
    for word, row in zip(("in", "out"), rows):
        if not re.fullmatch(f" *{word}( +{NAME}/{NUMBER})+ *", row):
            return None
        kinds.append([(name, int(many)) for name, many in re.findall("([a-z]+)/([0-9]+)", row)])
    names = [name for name, _ in kinds[0]] if kinds else []
    if len(rows) < 3 or (len(rows) - 3) % len(names):
        return None
    patterns = []
    for number, row in enumerate(rows[2:], -1):
        first = "head" if number < 0 else f"rule +{number // len(names)} +{names[number % len(names)]}"
        found = re.match(f" *{first} ", row)
        told = found and plain_pattern(row[found.end():])
        if not told or told[1]:
            return None
        patterns.append(told[0])
    rules = [patterns[at:at + len(names)] for at in range(1, len(patterns), len(names))]
    return kinds[0], kinds[1], patterns[0], rules


def wide_patterns():
    tops = [((name,), many) for name, many in CLAWS]
    return things_of(tops + [(call(0), 0), (call(1, 2), 0)], 4)


class Shown(unittest.TestCase):
    def test_the_documents_example(self):
        self.assertEqual(shown_pattern(PATTERN), "fork(0.1,leaf)")

    def test_patterns(self):
        self.assertEqual(shown_pattern(EXAMPLE), EXAMPLE_TEXT)
        self.assertEqual(shown_pattern(call(3, 2)), "3.2")
        self.assertEqual(shown_pattern(("claw", call(10, 0), ("twig", call(0, 100)), LEAF)), "claw(10.0,twig(0.100),leaf)")
        for pattern in wide_patterns():
            self.assertEqual(shown_pattern(pattern), plainly_shown(pattern))

    def test_numbers(self):
        for state in list(range(120)) + [999, 1000, 10 ** 9 - 1, 10 ** 9, 10 ** 9 + 7, 10 ** 18, 10 ** 30 + 1, 2 ** 200]:
            self.assertEqual(shown_pattern(("twig", call(state, 5))), f"twig({state}.5)")
            self.assertEqual(shown_pattern(call(0, state)), f"0.{state}")

    def test_numbers_of_very_many_figures(self):
        self.assertEqual(shown_pattern(call(10 ** 5000, 10 ** 5001 - 1)), "1" + "0" * 5000 + "." + "9" * 5001)

    def test_great_patterns(self):
        self.assertEqual(shown_pattern(chain(60, call(7, 1))), "twig(" * 59 + "7.1" + ")" * 59)
        self.assertEqual(shown_pattern(broad(4000, call(12, 3))), plainly_shown(broad(4000, call(12, 3))))
        self.assertEqual(shown_pattern(chain(3000, call(0))), "twig(" * 2999 + "0.0" + ")" * 2999)

    def test_a_book(self):
        self.assertEqual(shown_book(BOOK), TEXT)
        wished = "in leaf/0 twig/1 fork/2\nout leaf/0 twig/1 fork/2\nhead 0.0\n"
        wished += "rule 0 leaf leaf\nrule 0 twig twig(0.0)\nrule 0 fork fork(0.1,0.0)"
        self.assertEqual(shown_book(MIRROR), wished)

    def test_a_book_of_no_states(self):
        wished = "in leaf/0 twig/1 fork/2\nout leaf/0 twig/1 fork/2 claw/3\nhead fork(leaf,twig(leaf))"
        self.assertEqual(shown_book(giving(EXAMPLE)), wished)

    def test_states_of_two_figures(self):
        rules = [[("x",)]] * 20
        rows = shown_book(made_book([("a", 0)], [("x", 0)], call(19), rules)).split("\n")
        self.assertEqual(rows[:3], ["in a/0", "out x/0", "head 19.0"])
        self.assertEqual(rows[3:], [f"rule {state} a x" for state in range(20)])


class Read(unittest.TestCase):
    def check_read(self, text, book=BOOK):
        self.assertEqual(read_book(text), book, text)

    def check_no_text(self, text):
        check_refused(self, NoText, read_book, text)

    def check_by_plain_parts(self, text):
        """Reads or refuses the text as the rows' own words tell, and tells which."""
        parts = plain_parts(text)
        try:
            wished = NoText if parts is None else made_book(*parts)
        except BookError as error:
            wished = type(error)
        try:
            told = read_book(text)
        except BookError as error:
            told = type(error)
        self.assertEqual(told, wished, text)
        return told if isinstance(told, type) else "read"

    def with_row(self, number, row):
        return "\n".join(ROWS[:number] + [row] + ROWS[number + 1:])

    def test_the_example(self):
        self.check_read(TEXT)
        for book in (SAME, MIRROR, LAST, DOUBLE, TURNS, giving(EXAMPLE)):
            self.check_read(shown_book(book), book)

    def test_shown_read_and_shown_again(self):
        for book in some_books(200, seed=51):
            text = shown_book(book)
            told = read_book(text)
            self.assertEqual(told, book)
            self.assertEqual(shown_book(told), text)
            self.assertEqual([type(part) for part in told], [tuple] * 4)

    def test_a_book_of_no_states(self):
        self.check_read("in a/0\nout x/0\nhead x", ((("a", 0),), (("x", 0),), ("x",), ()))
        for text in ("in a/0\nout x/0\nhead x\n", "in a/0\nout x/0\nhead x\n ", "in a/0\nout x/0\n", "in a/0\nout x/0"):
            self.check_no_text(text)

    def test_names_like_the_words_of_rows(self):
        text = "in in/0 rule/1\nout out/0 head/1\nhead head(0.0)\nrule 0 in out\nrule 0 rule head(0.0)"
        kinds = ((("in", 0), ("rule", 1)), (("out", 0), ("head", 1)))
        self.check_read(text, kinds + (("head", call(0)), ((("out",), ("head", call(0))),)))

    def test_more_blanks_where_one_stands_and_at_the_ends_of_rows(self):
        for at, sign in enumerate(TEXT):
            if sign == " ":
                self.check_read(TEXT[:at] + " " * 7 + TEXT[at:])
        self.check_read("\n".join("  " + row + "   " for row in ROWS))
        self.check_read(TEXT.replace(" ", "    "))

    def test_a_blank_at_any_place(self):
        refused = 0
        for at in range(len(TEXT) + 1):
            for blanks in (" ", "   "):
                refused += self.check_by_plain_parts(TEXT[:at] + blanks + TEXT[at:]) != "read"
        self.assertGreater(refused, 50)

    def test_blanks_in_patterns(self):
        self.check_read(self.with_row(4, "rule 0 b  fork ( 0 . 1 ,  leaf )  "))
        self.check_read(self.with_row(6, "rule 1 b 1 .0"))
        self.check_read(self.with_row(6, "rule 1 b 1. 0"))
        for row in ("fork(0.1,le af)", "fo rk(0.1,leaf)", "fork(0.1 leaf)"):
            self.check_no_text(self.with_row(4, "rule 0 b " + row))
        twelve = "in a/0\nout x/0\nhead {}\n" + "\n".join(f"rule {state} a x" for state in range(13))
        self.assertEqual(read_book(twelve.format("12.0"))[2], call(12))
        self.check_no_text(twelve.format("1 2.0"))
        self.check_no_text(twelve.format("12.0 0"))

    def test_blanks_where_none_may_stand(self):
        for row in ("in a /0 b/2", "in a/ 0 b/2", "in a / 0 b/2", "i n a/0 b/2", "in a/0 b/2 /"):
            self.check_no_text(self.with_row(0, row))
        for row in ("ru le 0 a leaf", "rule0 a leaf", "rule 0a leaf", "rule 0 aleaf"):
            self.check_no_text(self.with_row(3, row))
        for row in ("he ad fork(leaf,1.0)", "headfork(leaf,1.0)", "head"):
            self.check_no_text(self.with_row(2, row))
        self.check_no_text(self.with_row(5, "rule 1 afork(leaf,leaf)"))
        self.check_no_text(self.with_row(6, "rule 1 b1.0"))
        self.check_no_text("ina/0 b/2" + TEXT[len(ROWS[0]):])

    def test_no_other_signs_as_blanks(self):
        for sign in "\t\r\f\v\u00a0\u2003":
            for at in (0, 2, len(ROWS[0]), len(TEXT) - 3, len(TEXT)):
                self.check_no_text(TEXT[:at] + sign + TEXT[at:])

    def test_a_sign_left_out_put_in_or_exchanged(self):
        met = {}
        for at in range(len(TEXT) + 1):
            texts = [TEXT[:at] + TEXT[at + 1:], TEXT[:at] + TEXT[at:at + 2][::-1] + TEXT[at + 2:]]
            for sign in "ab lz019./(),?*-+\n_A~":
                texts += [TEXT[:at] + sign + TEXT[at:], TEXT[:at] + sign + TEXT[at + 1:]]
            for text in texts:
                told = self.check_by_plain_parts(text)
                met[told] = met.get(told, 0) + 1
        for told in ("read", NoText, NoKinds, NoBook):
            self.assertGreater(met[told], 10, told)

    def test_words_left_out_put_in_or_exchanged(self):
        words = [word for word in re.split(r"([ \n(),./])", TEXT) if word]
        every = ["in", "out", "head", "rule", "a", "b", "leaf", "fork", "0", "1", "2", " ", "\n", "(", ")", ",", ".", "/"]
        for at in range(len(words) + 1):
            for new in [[]] + [[word] for word in every]:
                for rest in (words[at:], words[at + 1:]):
                    self.check_by_plain_parts("".join(words[:at] + new + rest))

    def test_each_beginning_of_a_text(self):
        for at in range(len(TEXT)):
            self.check_by_plain_parts(TEXT[:at])
            self.check_by_plain_parts(TEXT[at:])

    def test_rows_in_another_order_left_out_or_put_in_twice(self):
        for at in range(len(ROWS)):
            self.check_no_text("\n".join(ROWS[:at] + ROWS[at + 1:]))
            self.check_no_text("\n".join(ROWS[:at] + [ROWS[at]] + ROWS[at:]))
            for other in range(at):
                rows = list(ROWS)
                rows[at], rows[other] = rows[other], rows[at]
                self.check_no_text("\n".join(rows))
        self.check_no_text("\n".join(ROWS[:3] + ROWS[5:]))
        self.check_no_text("\n".join(ROWS[:3] + ROWS[3:5] + ROWS[3:5]))
        self.check_no_text("\n".join(ROWS + ["rule 3 a leaf", "rule 3 b leaf"]))
        self.check_no_text("\n".join(ROWS + ["rule 2 a leaf"]))
        self.check_no_text(self.with_row(3, "rule 0 c leaf"))
        self.check_no_text(self.with_row(3, "rule 1 a leaf"))

    def test_all_rows_of_a_state_left_out(self):
        self.check_no_text("\n".join(ROWS[:3] + ROWS[5:]))
        # The head still calls state 1: the rows are as told, but it is no book.
        check_refused(self, NoBook, read_book, "\n".join(ROWS[:5]))
        check_refused(self, NoBook, read_book, "\n".join(ROWS[:3]))

    def test_empty_rows_line_ends_and_other_words(self):
        for row in ("", " ", "    ", "note leaf", "leaf", "#", "rule", "in a/0 b/2", "head leaf", "Rule 2 a leaf", "rules"):
            for at in range(len(ROWS) + 1):
                self.check_no_text("\n".join(ROWS[:at] + [row] + ROWS[at:]))
        for text in ("", " ", "\n", "\n\n", "\n\n\n\n\n", TEXT + "\n", "\n" + TEXT, TEXT + "\n\n", TEXT.replace("\n", " ")):
            self.check_no_text(text)

    def test_rows_of_kinds(self):
        for row in ("in", "in ", " in   ", "In a/0 b/2", "in a b/2", "in a/0, b/2", "in a/0b/2", "in a/ b/2", "in /0 b/2"):
            self.check_no_text(self.with_row(0, row))
        for row in ("in A/0 b/2", "in a/0/0 b/2", "in a/-1 b/2", "in a/+0 b/2", "in a/x b/2", "in abcdefghi/0 b/2", "in ?/0"):
            self.check_no_text(self.with_row(0, row))
        for row in ("out", "out leaf/0 fork/", "out leaf/0 fork/2 abcdefghi/0", "outs leaf/0 fork/2", "out leaf/00 fork/2"):
            self.check_no_text(self.with_row(1, row))

    def test_numbers_of_1_to_3_figures_and_of_4(self):
        for number in ("4", "9", "10", "99", "100", "999"):
            check_refused(self, NoKinds, read_book, self.with_row(1, f"out leaf/0 fork/2 x/{number}"))
            check_refused(self, NoBook, read_book, self.with_row(2, f"head {number}.0"))
            check_refused(self, NoBook, read_book, self.with_row(4, f"rule 0 b fork(0.{number},leaf)"))
        for number in ("1000", "9999", "10000", "1" * 19000, "00", "01", "002", "0000", "012", "-0", "+1", "1x", "0x1", ""):
            self.check_no_text(self.with_row(1, f"out leaf/0 fork/2 x/{number}"))
            self.check_no_text(self.with_row(2, f"head {number}.0"))
            self.check_no_text(self.with_row(4, f"rule 0 b fork(0.{number},leaf)"))
        for state in ("00", "000", "0000", "1", "-0", "", "a"):
            self.check_no_text(self.with_row(3, f"rule {state} a leaf"))
        for state in ("01", "001", "0001", "1.0"):
            self.check_no_text(self.with_row(5, f"rule {state} a leaf"))

    def test_no_figures_of_other_scripts(self):
        self.check_no_text(self.with_row(6, "rule 1 b 1.\u00b2"))
        self.check_no_text(self.with_row(6, "rule 1 b \u0661.0"))

    def test_states_of_1_to_4_figures(self):
        for states, told in ((20, None), (21, NoBook), (100, NoBook), (1000, NoBook), (1001, NoText), (1100, NoText)):
            rows = ["in a/0", "out x/0", "head x"] + [f"rule {state} a x" for state in range(states)]
            if told:
                check_refused(self, told, read_book, "\n".join(rows))
            else:
                self.assertEqual(len(read_book("\n".join(rows))[3]), states)

    def test_brackets_100_and_101_within_one_another(self):
        for height, told in ((19, None), (20, NoBook), (21, NoBook), (99, NoBook), (100, NoBook), (101, NoText)):
            for inner in ("leaf", "0.0"):
                pattern = "twig(" * height + inner + ")" * height
                text = f"in a/0 b/1\nout leaf/0 twig/1\nhead {pattern}\nrule 0 a leaf\nrule 0 b {pattern}"
                if told:
                    check_refused(self, told, read_book, text)
                else:
                    self.assertEqual(shown_book(read_book(text)), text)
        deep = "twig(" * 101 + "leaf" + ")" * 101
        self.check_no_text(self.with_row(4, f"rule 0 b fork(leaf,{deep})"))
        self.check_no_text(self.with_row(6, f"rule 1 b {deep}"))

    def test_thousands_of_brackets(self):
        for many in (1000, 3000):
            for pattern in ("x(" * many + "x" + ")" * many, "x(" * many, "(" * many, "x" + ")" * many, "x(x," * many):
                self.check_no_text(self.with_row(2, "head " + pattern))

    def test_many_kids_and_many_brackets_side_by_side(self):
        for pattern in ("x(" + "x," * 5000 + "x)", "x(" + "x(x)," * 2000 + "x)", "leaf(" + "0.0," * 3000 + "1.0)"):
            check_refused(self, NoBook, read_book, self.with_row(2, "head " + pattern))

    def test_patterns_that_are_written_wrongly(self):
        wrong = ["leaf()", "leaf( )", "fork(,)", "fork(leaf,)", "fork(,leaf)", "fork(leaf", "fork(leaf))", "(leaf)", "()"]
        wrong += ["fork((leaf),leaf)", "leaf leaf", "leaf,", ",leaf", ",", "(", ")", ".", "0", "0.", ".0", "0.0.0"]
        wrong += ["0.0(leaf)", "0.0.", "..", "0..0", "0,0", "leaf.0", "0.leaf", "leaf.leaf", "0.0 0.0", "0.0leaf", "leaf0.0"]
        wrong += ["fork(leaf,leaf)(leaf)", "fork(leaf)leaf", "fork leaf", "?", "*", "?(0,0)", "Leaf", "leaf1", "le_af", "leaf;"]
        wrong += ["fork(leaf;leaf)", "fork[leaf,leaf]", "-1.0", "0.-1", "abcdefghi", "abcdefghi(leaf)", "0 0", "1.0,"]
        for pattern in wrong:
            for number, first in ((2, "head "), (3, "rule 0 a "), (6, "rule 1 b ")):
                self.check_no_text(self.with_row(number, first + pattern))
                self.check_no_text(self.with_row(number, first + f"fork(leaf,{pattern})"))
        self.check_no_text(self.with_row(2, "head leaf,leaf"))

    def test_rows_as_told_that_are_no_book(self):
        for pattern in ("bud", "fork(leaf)", "fork(leaf,leaf,leaf)", "leaf(leaf)", "a", "fork", "2.0", "0.1", "abcdefgh"):
            check_refused(self, NoBook, read_book, self.with_row(2, "head " + pattern))
        for pattern in ("0.0", "1.0", "fork(leaf,0.0)", "999.999"):
            check_refused(self, NoBook, read_book, self.with_row(3, "rule 0 a " + pattern))
        for pattern in ("0.2", "2.0", "fork(0.0,0.3)"):
            check_refused(self, NoBook, read_book, self.with_row(4, "rule 0 b " + pattern))

    def test_rows_as_told_whose_kinds_are_no_kinds(self):
        for row in ("out fork/2", "out leaf/0 leaf/0", "out leaf/0 fork/4", "out leaf/0 fork/999"):
            check_refused(self, NoKinds, read_book, self.with_row(1, row))
            check_refused(self, NoKinds, read_book, self.with_row(1, row).replace("1.0", "9.9"))
        many = " ".join(f"{letter}/0" for letter in "abcdefghi")
        check_refused(self, NoKinds, read_book, self.with_row(1, "out " + many))
        check_refused(self, NoKinds, read_book, f"in {many}\nout x/0\nhead x")
        check_refused(self, NoKinds, read_book, "in b/1\nout x/0\nhead x\nrule 0 b x")
        twice = "in a/0 a/0\nout x/0\nhead {}\nrule 0 a x\nrule 0 a x"
        check_refused(self, NoKinds, read_book, twice.format("x"))
        check_refused(self, NoKinds, read_book, twice.format("y(5.5)"))
        self.check_no_text(twice.format("x") + "\nrule 0 a x")

    def test_no_text_goes_first(self):
        for wrong in ("out fork/2", "out leaf/0 leaf/0", "out leaf/0 fork/4"):
            text = self.with_row(1, wrong)
            check_refused(self, NoKinds, read_book, text)
            for broken in (text + "\n", text + "x(", text + "\nrule 2 a leaf", text.replace("head", "heads")):
                self.check_no_text(broken)
        no_book = self.with_row(2, "head bud")
        check_refused(self, NoBook, read_book, no_book)
        for broken in (no_book + "\n", no_book + ".0", no_book.replace("rule 1 b", "rule 1 c")):
            self.check_no_text(broken)

    def test_bounds_of_patterns(self):
        hundreds = forked([call(0)] * 200)
        right = [broad(400), chain(20), chain(20, call(0)), hundreds]
        wrong = [broad(401), chain(21), chain(21, call(0)), ("fork", hundreds, call(0))]
        for pattern in right + wrong:
            shown = shown_pattern(pattern)
            for head, rule in (("leaf", shown), (shown, "leaf")):
                text = f"in b/1 a/0\nout leaf/0 twig/1 fork/2\nhead {head}\nrule 0 b {rule}\nrule 0 a leaf"
                self.assertEqual(self.check_by_plain_parts(text), "read" if pattern in right else NoBook)

    def test_long_texts(self):
        blanks = 20000 - len(TEXT)
        for at in (0, 2, len(TEXT)):
            self.check_read(TEXT[:at] + " " * blanks + TEXT[at:])
        for sign in " \n(),.0a":
            self.check_no_text(sign * 20000)

    def test_what_was_told_is_the_askers_own(self):
        before = copy.deepcopy(BOOK)
        told = shown_book(BOOK)
        self.assertEqual(BOOK, before)
        self.assertEqual(shown_book(BOOK), told)
        first = read_book(TEXT)
        read_book(shown_book(SAME))
        self.assertEqual(first, BOOK)
