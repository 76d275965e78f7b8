"""From which tree a wished tree comes."""

from boughbook.books import head_of, ins_of, rules_of, states_of
from boughbook.errors import Many
from boughbook.patterns import called_by, is_call
from boughbook.sharing import shared_row

MOST_NOTES = 30


def needs_of(pattern, row, number):
    """What the calls must make so that the pattern makes the part of this number in the shared row.

    It is a dict from calls to numbers of parts, or None where the pattern never makes that part.
    """
    needs = {}
    ahead = [(pattern, number)]
    while ahead:
        part, wished = ahead.pop()
        if is_call(part):
            if needs.setdefault(called_by(part), wished) != wished:
                return None
        elif part[0] != row[wished][0]:
            return None
        else:
            ahead.extend(list(zip(part[1:], row[wished][1:])))
    return needs


def keep_least(rows, bits, knots, kids):
    if bits not in rows or knots < rows[bits][0]:
        rows[bits] = (knots, kids)


def longer(rows, agreeing, sizes, numbers):
    """The rows with one more kid, which has one of these numbers."""
    told = {}
    for bits, (knots, kids) in rows.items():
        for number in numbers:
            keep_least(told, bits & agreeing[number], knots + sizes[number], kids + (number,))
    return told


class Ways:
    """The ways in which the states make parts of the wish of a knot of one kind.

    A way is a pair (state, part). Several ways are told as the bits of one number, so that it
    is quick to tell which of them the very many knots go whose kids have notes that are known.
    Rows of kids are told as a dict from the ways that a knot with such kids goes to a pair
    (knots, kids): the kids of fewest knots that go so, by the numbers of their notes.
    """

    def __init__(self, kind, patterns, row):
        self.kind_name = kind[0]
        self.pairs = []
        # For each kid a dict from pairs (state, part) to the ways that need this state to make this part of it.
        self.needing = [{} for kid in range(kind[1])]
        # For each kid a list that has, for each note that was taken, the ways that go with it.
        self.agreeing = [[] for kid in range(kind[1])]
        for state, pattern in enumerate(patterns):
            for part in range(len(row)):
                self.add_way(state, part, needs_of(pattern, row, part))

    def add_way(self, state, part, needs):
        if needs is not None:
            for (called, kid), wished in needs.items():
                bits = self.needing[kid].get((called, wished), 0)
                self.needing[kid][(called, wished)] = bits | (1 << len(self.pairs))
            self.pairs.append((state, part))

    def all_bits(self):
        return (1 << len(self.pairs)) - 1

    def take_note(self, note):
        """Makes ready for kids that have this note, which gets the next number."""
        for kid, needing in enumerate(self.needing):
            against = 0
            for (state, part), bits in needing.items():
                if note[state] != part:
                    against |= bits
            self.agreeing[kid].append(self.all_bits() & ~against)

    def rows_with(self, last, sizes):
        """The rows of kids of numbers up to `last` in which the last one stands; sizes are their knots."""
        told = {}
        # The last one stands at `first` and not before, so that no row is looked at twice.
        for first in range(len(self.agreeing)):
            rows = {self.all_bits(): (0, ())}
            for place, agreeing in enumerate(self.agreeing):
                low = last if place == first else 0
                high = last if place < first else last + 1
                rows = longer(rows, agreeing, sizes, list(range(low, high)))
            for bits, (knots, kids) in rows.items():
                keep_least(told, bits, knots, kids)
        return told

    def note_by(self, bits, states):
        """The note of a knot that goes these ways."""
        note = [-1] * states
        for number, (state, part) in enumerate(self.pairs):
            if (bits >> number) & 1 == 1:
                note[state] = part
        return tuple(note)


class Table:
    """The notes that were found, each with the smallest tree that is known to have it.

    An entry is a triple (knots of the tree, note, tree). The entries are settled from the
    least one on: no tree that is found later has fewer knots.
    """

    def __init__(self, book, row):
        self.states = states_of(book)
        self.ways = []
        for at, kind in enumerate(ins_of(book)):
            self.ways.append(Ways(kind, [patterns[at] for patterns in rules_of(book)], row))
        self.found = {}
        self.settled = []

    def enter(self, ways, bits, knots, kids):
        """Finds the note of a knot that goes these ways; its kids are settled trees of so many knots."""
        note = ways.note_by(bits, self.states)
        if note not in self.found and len(self.found) == MOST_NOTES:
            raise Many("there are too many notes")
        if note not in self.found or knots + 1 < self.found[note][0]:
            # The kids are put in as they are: so very great trees are soon made, and soon counted.
            tree = (ways.kind_name,) + tuple([self.settled[kid][2] for kid in kids])
            self.found[note] = (knots + 1, note, tree)

    def settle(self, entry):
        """Settles the entry, and finds the notes of all knots that have its tree as a kid."""
        self.settled.append(entry)
        sizes = [knots for knots, note, tree in self.settled]
        for ways in self.ways:
            ways.take_note(entry[1])
            for bits, (knots, kids) in ways.rows_with(len(sizes) - 1, sizes).items():
                self.enter(ways, bits, knots, kids)

    def fill(self):
        for ways in self.ways:
            if not ways.agreeing:
                self.enter(ways, ways.all_bits(), 0, ())
        while len(self.settled) < len(self.found):
            done = [note for knots, note, tree in self.settled]
            late = [entry for note, entry in self.found.items() if note not in done]
            self.settle(min(late, key=lambda entry: entry[:2]))


def notes_of(book, wish):
    """The table of notes: the list of pairs (note, tree), ascending by (knots of the tree, note)."""
    row, at = shared_row(wish)
    table = Table(book, row)
    table.fill()
    return [(note, tree) for knots, note, tree in table.settled]


def makes(needs, note):
    """True where a tree of this note gives all that the calls of the head need."""
    return all([note[state] == wished for (state, kid), wished in needs.items()])


def whence(book, wish):
    """A tree with as few knots as any that is turned into the wish, or None."""
    row, at = shared_row(wish)
    needs = needs_of(head_of(book), row, at)
    for note, tree in notes_of(book, wish):
        if needs is not None and makes(needs, note):
            return tree
    return None
