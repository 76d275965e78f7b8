"""Trees as text."""

from boughbook.errors import NoTree
from boughbook.trees import built, kids_of, many_of, tall, walked

TALLEST = 30
MOST_KNOTS = 400

# Stands for a tree among the words that are due; no word of a text is empty.
TREE_DUE = ""


def shown_knot(name, kids):
    if not kids:
        return name
    inner = ",".join(kids)
    return f"{name}({inner})"


def shown_tree(tree):
    """The text that writes the tree."""
    done = []
    # Backwards, so that all kids are written when their knot is met.
    for knot in reversed(walked(tree)):
        kids = [done.pop() for kid in kids_of(knot)]
        done.append(shown_knot(knot[0], kids))
    return done[0]


def words_of(text):
    """The words of a text: its brackets and commas, and what stands between these and blanks."""
    spread = text
    for sign in "(),":
        spread = spread.replace(sign, f" {sign} ")
    # Not split(): a blank is the one sign that parts words.
    return [word for word in spread.split(" ") if word != ""]


def dues_of(many):
    """What is due behind the name of a knot with so many kids."""
    if many == 0:
        return []
    return ["("] + [TREE_DUE, ","] * (many - 1) + [TREE_DUE, ")"]


def tops_of(kinds, words):
    """The tops, as `built` takes them, of the tree that the words write."""
    tops = []
    dues = [TREE_DUE]
    for word in words:
        if not dues:
            raise NoTree("the text goes on behind the tree")
        due = dues.pop()
        if due == TREE_DUE:
            many = many_of(kinds, word)
            if many < 0:
                raise NoTree("no name of a kind stands where a tree is due")
            tops.append(((word,), many))
            dues.extend(list(reversed(dues_of(many))))
        elif word != due:
            raise NoTree("a bracket or a comma is not where it is due")
    if dues:
        raise NoTree("the text ends within the tree")
    return tops


def read_tree(kinds, text):
    """The tree over the kinds that the text writes."""
    tops = tops_of(kinds, words_of(text))
    if len(tops) > MOST_KNOTS:
        raise NoTree("the tree has too many knots")
    tree = built(tops)
    if tall(tree) > TALLEST:
        raise NoTree("the tree is too tall")
    return tree
