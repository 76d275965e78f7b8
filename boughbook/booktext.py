"""Books as text."""

from boughbook.books import head_of, ins_of, made_book, outs_of, rules_of
from boughbook.errors import NoText
from boughbook.patterns import calls_in, filled, is_call
from boughbook.trees import CALL_SIGN, built, is_name
from boughbook.treetext import shown_tree, words_of

# Great numbers are written piece by piece: Python refuses to write very great ones at once.
PIECE = 1000000000
PIECE_FIGURES = 9

MOST_FIGURES = 3
MOST_BRACKETS = 100


def shown_number(number):
    pieces = []
    rest = number
    while rest >= PIECE:
        rest, piece = divmod(rest, PIECE)
        pieces.append(str(piece).zfill(PIECE_FIGURES))
    pieces.append(str(rest))
    return "".join(reversed(pieces))


def shown_call(call):
    return ".".join([shown_number(number) for number in call])


def shown_pattern(pattern):
    """The text that writes the pattern."""
    # A call is written where a knot without kids would be, so it is shown as one.
    table = dict([(call, (shown_call(call),)) for place, call in calls_in(pattern)])
    return shown_tree(filled(pattern, table))


def shown_kinds(word, kinds):
    return " ".join([word] + [f"{name}/{many}" for name, many in kinds])


def shown_rule(state, name, pattern):
    shown = shown_pattern(pattern)
    return f"rule {state} {name} {shown}"


def shown_book(book):
    """The text that writes the book."""
    head = shown_pattern(head_of(book))
    rows = [shown_kinds("in", ins_of(book)), shown_kinds("out", outs_of(book)), f"head {head}"]
    for state, patterns in enumerate(rules_of(book)):
        for kind, pattern in zip(ins_of(book), patterns):
            rows.append(shown_rule(state, kind[0], pattern))
    return "\n".join(rows)


def read_number(word):
    # Not isdigit: it also takes figures beyond 0 to 9.
    figures = [sign for sign in word if "0" <= sign <= "9"]
    if not 1 <= len(word) <= MOST_FIGURES or len(figures) != len(word):
        raise NoText("no number stands where one is due")
    if word[0] == "0" and word != "0":
        raise NoText("a number has a nought ahead")
    return int(word)


def read_call(words):
    if len(words) != 3 or words[1] != ".":
        raise NoText("neither a name nor a call stands where one is due")
    return (CALL_SIGN, read_number(words[0]), read_number(words[2]))


def steps_of(words):
    """The words of a pattern with each name made a knot without kids and each call one whole."""
    steps = []
    at = 0
    while at < len(words):
        if words[at] in ("(", ",", ")"):
            steps.append(words[at])
            at += 1
        elif is_name(words[at]):
            steps.append((words[at],))
            at += 1
        else:
            steps.append(read_call(words[at:at + 3]))
            at += 3
    return steps


def follows(before, step, depth):
    """True where the step may stand behind the one before, so many brackets being open."""
    ended = isinstance(before, tuple) or before == ")"
    if isinstance(step, tuple):
        return not ended
    if step == "(":
        return isinstance(before, tuple) and not is_call(before) and depth < MOST_BRACKETS
    return ended and depth > 0


def tops_of(steps):
    """The tops, as `built` takes them, of the pattern that the steps write."""
    tops = []
    within = []
    # A pattern is due at the beginning as it is behind a comma.
    before = ","
    for step in steps:
        if not follows(before, step, len(within)):
            raise NoText("a pattern is not written as one is")
        if step == "(":
            tops[-1][1] = 1
            within.append(tops[-1])
        elif step == ",":
            within[-1][1] += 1
        elif step == ")":
            within.pop()
        else:
            tops.append([step, 0])
        before = step
    if within or before == ",":
        raise NoText("a row ends within a pattern")
    return tops


def read_pattern(words):
    """The pattern that the words of a row write from some word on."""
    text = " ".join(words).replace(".", " . ")
    return built(tops_of(steps_of(words_of(text))))


def read_kind(word):
    name, slash, many = word.partition("/")
    if not is_name(name):
        raise NoText("no name stands where one is due")
    return (name, read_number(many))


def read_kinds(first, words):
    if len(words) < 2 or words[0] != first:
        raise NoText("a row of kinds is not as it is due")
    return [read_kind(word) for word in words[1:]]


def read_head(words):
    if words[:1] != ["head"]:
        raise NoText("the row of the head is not where it is due")
    return read_pattern(words[1:])


def read_rule(state, name, words):
    if len(words) < 4 or words[0] != "rule" or read_number(words[1]) != state or words[2] != name:
        raise NoText("a row of a rule is not as it is due")
    return read_pattern(words[3:])


def read_rules(ins, rows):
    if len(rows) % len(ins) != 0:
        raise NoText("a state has not one row for each kind of ins")
    rules = []
    for number, words in enumerate(rows):
        state, at = divmod(number, len(ins))
        if at == 0:
            rules.append([])
        rules[state].append(read_rule(state, ins[at][0], words))
    return rules


def words_in(row):
    # Not split(): a blank is the one sign that parts words.
    return [word for word in row.split(" ") if word != ""]


def read_book(text):
    """The book that the text writes."""
    rows = [words_in(row) for row in text.split("\n")]
    if len(rows) < 3:
        raise NoText("there are too few rows")
    ins = read_kinds("in", rows[0])
    outs = read_kinds("out", rows[1])
    head = read_head(rows[2])
    return made_book(ins, outs, head, read_rules(ins, rows[3:]))
