"""What several tests need: trees and patterns to try, and a way to look at a refusal."""

import itertools

from boughbook.errors import BookError

KINDS = (("leaf", 0), ("twig", 1), ("fork", 2))
EXAMPLE = ("fork", ("leaf",), ("twig", ("leaf",)))
EXAMPLE_TEXT = "fork(leaf,twig(leaf))"


def things_of(tops, most):
    """All things of at most so many parts; tops are pairs (top, many)."""
    by_size = {0: []}
    for size in range(1, most + 1):
        by_size[size] = []
        for top, many in tops:
            for sizes in itertools.product(range(1, size), repeat=many):
                if sum(sizes) == size - 1:
                    for kids in itertools.product(*[by_size[each] for each in sizes]):
                        by_size[size].append(top + kids)
    return [thing for size in range(1, most + 1) for thing in by_size[size]]


def trees_of(kinds, most):
    return things_of([((name,), many) for name, many in kinds], most)


def chain(height, last=("leaf",)):
    """A thing so tall, each knot but the last with one kid."""
    thing = last
    for _ in range(height - 1):
        thing = ("twig", thing)
    return thing


def broad(parts, last=("leaf",)):
    """A thing of so many parts, as low as may be."""
    if parts == 1:
        return last
    if parts == 2:
        return ("twig", last)
    half = (parts - 1) // 2
    return ("fork", broad(half, last), broad(parts - 1 - half, last))


def spots(thing):
    """A dict that has for each place what stands there, straight by the document's words."""
    found = {(): thing}
    if thing[0] != "?":
        for number, kid in enumerate(thing[1:]):
            for place, part in spots(kid).items():
                found[(number,) + place] = part
    return found


def check_refused(case, refusal, asked, *things):
    """The call is refused with just this class, which stands straight under BookError."""
    for caught_as in (refusal, BookError, ValueError):
        try:
            asked(*things)
        except caught_as as error:
            case.assertIs(type(error), refusal)
        else:
            case.fail(f"not refused: {things!r:.200}")
