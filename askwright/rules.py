"""Rules: rows of lines, each a word and its parts."""

from askwright.errors import BadRule
from askwright.trees import is_text, is_tree

MOST_LINES = 40
BOXES = ("a", "b", "c", "d", "e", "f", "g", "h")
ASKING = ("ask", "has", "names")
FORMS = {
    "text": ("box", "words"),
    "self": ("box",),
    "copy": ("box", "box"),
    "row": ("box",),
    "put": ("box", "box"),
    "join": ("box", "box"),
    "first": ("box", "box"),
    "rest": ("box", "box"),
    "size": ("box", "box"),
    "cut": ("box", "box", "box"),
    "glue": ("box", "box", "box"),
    "ask": ("box", "box"),
    "has": ("box", "box"),
    "names": ("box", "box"),
    "go": ("line",),
    "like": ("box", "box", "line"),
    "rowed": ("box", "line"),
    "none": ("box", "line"),
    "say": ("box",),
    "fault": (),
}


def part_of(kind, piece, count):
    # The part that a piece of a line tells, None where it tells none.
    if kind == "words":
        return piece
    if kind == "box":
        return piece if piece in BOXES else None
    numbers = [str(number) for number in range(1, count + 1)]
    return int(piece) if piece in numbers else None


def pieces_of(line, form):
    # WORDS may have blanks within, all other parts have none.
    if "words" in form:
        return line.split(" ", len(form))
    return line.split(" ")


def row_of(line, count):
    # The pair (word, parts) of a line among that many, None for what is no line.
    if not is_text(line):
        return None
    word = line.partition(" ")[0]
    if word not in FORMS:
        return None
    form = FORMS[word]
    pieces = pieces_of(line, form)
    if len(pieces) != 1 + len(form):
        return None
    parts = tuple([part_of(kind, piece, count) for kind, piece in zip(form, pieces[1:])])
    return None if None in parts else (word, parts)


def read_lines(value):
    # A pair: the rows up to the first line that is none, and that line's number, None for a rule.
    if not isinstance(value, tuple) or not 1 <= len(value) <= MOST_LINES:
        return ((), 1)
    rows = []
    for line in value:
        row = row_of(line, len(value))
        if row is None:
            return (tuple(rows), len(rows) + 1)
        rows.append(row)
    # Right lines that are too many signs in all make no tree, and so no row either.
    return (tuple(rows), None if is_tree(value) else 1)


def rule_rows(tree):
    read = read_lines(tree)
    if read[1] is not None:
        raise BadRule("what is no rule has no lines")
    return read[0]


def bad_line(tree):
    return read_lines(tree)[1]


def is_rule(value):
    return bad_line(value) is None


def line_text(word, parts):
    return " ".join([word] + [str(part) for part in parts])


def asking_lines(tree):
    rows = rule_rows(tree)
    return tuple([number for number, row in enumerate(rows, start=1) if row[0] in ASKING])
