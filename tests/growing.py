"""What several tests need: trees, patterns and books to try, and a way to look at a refusal."""

import itertools
import random

from boughbook.errors import BookError
from boughbook.trees import put_at

KINDS = (("leaf", 0), ("twig", 1), ("fork", 2))
CLAWS = KINDS + (("claw", 3),)
LEAF = ("leaf",)
EXAMPLE = ("fork", ("leaf",), ("twig", ("leaf",)))
EXAMPLE_TEXT = "fork(leaf,twig(leaf))"


def call(state, kid=0):
    return ("?", state, kid)


# Books: the first two turn a tree into itself and into its mirror.
SAME = (KINDS, KINDS, call(0), ((LEAF, ("twig", call(0)), ("fork", call(0), call(0, 1))),))
MIRROR = (KINDS, KINDS, call(0), ((LEAF, ("twig", call(0)), ("fork", call(0, 1), call(0))),))
# State 0 leads to the last leaf of the tree and writes nothing on the way.
LAST = (KINDS, KINDS, call(0), ((LEAF, call(0), call(0, 1)),))
DOUBLE = (KINDS, KINDS, call(0), ((LEAF, ("fork", call(0), call(0)), ("fork", call(0), call(0, 1))),))
# The two states call one another by turns.
TURNS = (
    KINDS, KINDS, ("fork", call(1), ("twig", call(0))),
    (
        (("twig", LEAF), call(1), ("fork", call(1, 1), ("twig", call(0)))),
        (LEAF, ("fork", call(0), call(1)), ("twig", call(0, 1))),
    ),
)


def things_of(tops, most):
    """All things of at most so many parts; tops are pairs (top, many)."""
    by_size = {0: []}
    for size in range(1, most + 1):
        by_size[size] = []
        for top, many in tops:
            for sizes in itertools.product(range(1, size), repeat=many):
                if sum(sizes) == size - 1:
                    for kids in itertools.product(*[by_size[each] for each in sizes]):
                        by_size[size].append(top + kids)
    return [thing for size in range(1, most + 1) for thing in by_size[size]]


def trees_of(kinds, most):
    return things_of([((name,), many) for name, many in kinds], most)


def chain(height, last=("leaf",)):
    """A thing so tall, each knot but the last with one kid."""
    thing = last
    for _ in range(height - 1):
        thing = ("twig", thing)
    return thing


def broad(parts, last=("leaf",)):
    """A thing of so many parts, as low as may be."""
    if parts == 1:
        return last
    if parts == 2:
        return ("twig", last)
    half = (parts - 1) // 2
    return ("fork", broad(half, last), broad(parts - 1 - half, last))


def spots(thing):
    """A dict that has for each place what stands there, straight by the document's words."""
    found = {(): thing}
    if thing[0] != "?":
        for number, kid in enumerate(thing[1:]):
            for place, part in spots(kid).items():
                found[(number,) + place] = part
    return found


def forked(ends):
    """The things of the list under as many forks as they need, no taller than may be."""
    while len(ends) > 1:
        ends = [("fork", *ends[at:at + 2]) if at + 1 < len(ends) else ends[at] for at in range(0, len(ends), 2)]
    return ends[0]


def ladder(height, name="fork", many=2):
    """A tree so tall that has very many knots: the same kid stands in all places of its knot."""
    tree = ("leaf",)
    for _ in range(height - 1):
        tree = (name,) + (tree,) * many
    return tree


def plainly_made(book, pattern, kids):
    """What comes of a pattern whose calls hand on these kids, straight by the document's words."""
    if pattern[0] == "?":
        return plainly_turned_by(book, pattern[1], kids[pattern[2]])
    return pattern[:1] + tuple(plainly_made(book, part, kids) for part in pattern[1:])


def plainly_turned_by(book, state, tree):
    names = [name for name, _ in book[0]]
    return plainly_made(book, book[3][state][names.index(tree[0])], tree[1:])


def plainly_turned(book, tree):
    return plainly_made(book, book[2], (tree,))


def grown(source, tops, most):
    """Some thing of at most about so many parts; tops are pairs (top, many), some of them with 0."""
    top, many = source.choice([each for each in tops if each[1] < most])
    return top + tuple(grown(source, tops, (most - 1) // many) for _ in range(many))


def some_pattern(source, outs, states, kids, most):
    tops = [((name,), many) for name, many in outs]
    calls = [(("?", state, kid), 0) for state in range(states) for kid in range(kids)]
    # As many calls as knots to choose from, so that neither is seldom.
    picked = [source.choice(calls) for _ in tops] if calls else []
    return grown(source, tops + picked, most)


def some_book(source, ins, outs, states, most):
    """Some book of so many states, as tuples that keep to the document's words."""
    head = some_pattern(source, outs, states, 1, most)
    rules = tuple(
        tuple(some_pattern(source, outs, states, kids, most) for _, kids in ins) for _ in range(states)
    )
    return (ins, outs, head, rules)


def some_books(many, seed=1, most_states=4, most=7):
    """So many books, the same ones for the same seed."""
    source = random.Random(seed)
    books = []
    for _ in range(many):
        ins = source.choice([KINDS, (("b", 1), ("a", 0)), (("claw", 3), ("leaf", 0), ("bud", 0))])
        outs = source.choice([KINDS, (("x", 0), ("y", 2)), (("z", 1), ("claw", 3), ("x", 0))])
        books.append(some_book(source, ins, outs, source.randint(0, most_states), most))
    return books


def plain_calls(pattern):
    """The calls of a pattern, by places ascending."""
    return [part for _, part in sorted(spots(pattern).items()) if part[0] == "?"]


def plainly_renamed(pattern, names):
    if pattern[0] == "?":
        return call(names.index(pattern[1]), pattern[2])
    return pattern[:1] + tuple(plainly_renamed(part, names) for part in pattern[1:])


def plainly_numbered(ins, outs, head, patterns_of):
    """The book whose states are what is called, numbered straight by the document's words.

    Calls name other things than numbers; patterns_of tells the list of patterns of a thing.
    """
    names = []
    rows = [[head]]
    for patterns in rows:
        for pattern in patterns:
            for _, name, _ in plain_calls(pattern):
                if name not in names:
                    names.append(name)
                    rows.append(patterns_of(name))
    rules = tuple(tuple(plainly_renamed(pattern, names) for pattern in patterns) for patterns in rows[1:])
    return (ins, outs, plainly_renamed(head, names), rules)


def plainly_filled(pattern, filling):
    """The pattern with each call replaced by what the function tells for its state and kid."""
    if pattern[0] == "?":
        return filling(pattern[1], pattern[2])
    return pattern[:1] + tuple(plainly_filled(part, filling) for part in pattern[1:])


def with_states(book, filling, more=()):
    """The book with all calls replaced, and more states behind its own."""
    rules = tuple(tuple(plainly_filled(pattern, filling) for pattern in patterns) for patterns in book[3])
    return (book[0], book[1], plainly_filled(book[2], filling), rules + tuple(more))


def with_copy(source, book):
    """The book with a state copied, which some of the calls then name in the place of the first one."""
    copied = source.randrange(len(book[3]))

    def filling(state, kid):
        return call(len(book[3]) if state == copied and source.random() < 0.5 else state, kid)

    return with_states(book[:3] + (book[3] + (book[3][copied],),), filling)


def with_other_numbers(source, book):
    """The book with its states numbered otherwise."""
    numbers = list(range(len(book[3])))
    source.shuffle(numbers)
    rules = tuple(book[3][numbers.index(state)] for state in range(len(numbers)))
    return with_states(book[:3] + (rules,), lambda state, kid: call(numbers[state], kid))


def with_uncalled(source, book):
    """The book with a state ahead of its own that nobody else calls."""
    fresh = tuple(some_pattern(source, book[1], len(book[3]) + 1, kids, 6) for _, kids in book[0])
    moved = with_states(book, lambda state, kid: call(state + 1, kid))
    return moved[:3] + ((fresh,) + moved[3],)


def put_off(book, part):
    """The patterns of a state that makes of the one kid that the part hands on what the part makes."""
    return tuple(
        plainly_filled(part, lambda state, kid: book[3][state][at]) for at in range(len(book[0]))
    )


def with_put_off(source, book):
    """The book with a part of a pattern put off into a state of its own, where there is such a part."""
    found = [(None, book[2], place, 0) for place in spots(book[2])]
    for state, patterns in enumerate(book[3]):
        for at, (pattern, (_, many)) in enumerate(zip(patterns, book[0])):
            found += [((state, at), pattern, place, kid) for place in spots(pattern) for kid in range(many)]
    source.shuffle(found)
    for where, pattern, place, kid in found:
        part = spots(pattern)[place]
        if part[0] != "?" and all(each[2] == kid for each in plain_calls(part)):
            return with_pattern(book, where, put_at(pattern, place, call(len(book[3]), kid)), put_off(book, part))
    return book


def with_pattern(book, where, pattern, *more):
    """The book with another head (None) or pattern (state, number of the kind), and more states behind its own."""
    if where is None:
        return book[:2] + (pattern, book[3] + more)
    rules = [list(patterns) for patterns in book[3]]
    rules[where[0]][where[1]] = pattern
    return book[:3] + (tuple(tuple(patterns) for patterns in rules) + more,)


def disguised(source, book):
    """Books that turn every tree as the book does, each made of it in another way or in several ways."""
    made = [with_uncalled(source, book), with_put_off(source, book), with_other_numbers(source, book)]
    if book[3]:
        made.append(with_copy(source, book))
        made.append(with_other_numbers(source, with_copy(source, with_copy(source, with_put_off(source, book)))))
    return made


def giving(tree):
    """A book of no states that turns all trees into the one."""
    return (KINDS, CLAWS, tree, ())


def check_refused(case, refusal, asked, *things):
    """The call is refused with just this class, which stands straight under BookError."""
    for caught_as in (refusal, BookError, ValueError):
        try:
            asked(*things)
        except caught_as as error:
            case.assertIs(type(error), refusal)
        else:
            case.fail(f"not refused: {things!r:.200}")
