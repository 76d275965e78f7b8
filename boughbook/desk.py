"""The desk, which holds books by name and takes and tells texts."""

from boughbook.alike import parted
from boughbook.books import ins_of, outs_of
from boughbook.booktext import read_book, shown_book
from boughbook.errors import NoName, NotOne
from boughbook.least import least
from boughbook.running import turned
from boughbook.treetext import read_tree, shown_tree


def shown_place(place):
    if not place:
        return "top"
    return ".".join([str(number) for number in place])


def check_row(books):
    """Refuses books that do not go one behind another."""
    for first, second in zip(books, books[1:]):
        if outs_of(first) != ins_of(second):
            raise NotOne("the outs of one book are not the ins of the next one")


class Desk:
    """Books by name."""

    def __init__(self):
        self.held = {}

    def book_of(self, name):
        if name not in self.held:
            raise NoName("no book is held under this name")
        return self.held[name]

    def take(self, name, text):
        """Holds the book that the text writes under the name."""
        self.held[name] = read_book(text)

    def drop(self, name):
        """Holds the book of this name no more."""
        self.book_of(name)
        self.held.pop(name)

    def names(self):
        """The list of the names, ascending."""
        return sorted(self.held)

    def turn(self, names, text):
        """The text of what comes of the tree that the text writes, turned by one book after another."""
        books = [self.book_of(name) for name in names]
        check_row(books)
        if not books:
            return text
        tree = read_tree(ins_of(books[0]), text)
        for book in books:
            tree = turned(book, tree)
        return shown_tree(tree)

    def told_alike(self, name, other):
        """Whether the books of two names are alike, or what parts them."""
        found = parted(self.book_of(name), self.book_of(other))
        if found is None:
            return "alike"
        tree = shown_tree(found[0])
        place = shown_place(found[1])
        return f"parted by {tree} at {place}"

    def told_least(self, name):
        """The text of the least book."""
        return shown_book(least(self.book_of(name)))
