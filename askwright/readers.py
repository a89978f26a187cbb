"""Reading texts line by line, up to the first line that can't stand there."""

from askwright.asks import FAULTS, is_answered_ask, is_end
from askwright.asktree import MOST_GIVER, answer_key, are_givers
from askwright.errors import BadText, BadTree
from askwright.keeps import Keep, key_order
from askwright.project import MOST_NAMES, is_source
from askwright.rules import is_rule
from askwright.trees import is_name, is_text, read_tree, tree_at


def read_by(reader, text):
    # The reader itself, once it has taken all lines.
    pieces = text.split("\n")
    for number, line in enumerate(pieces[:-1], start=1):
        if not reader.takes(line):
            raise BadText(number)
    # Behind the last line end nothing stands, be it a line without its end or a line that is lacking.
    if pieces[-1] != "" or not reader.may_end():
        raise BadText(len(pieces))
    return reader


# What a line tells, None where it is not written so.

def tree_in(text):
    try:
        return read_tree(text)
    except BadTree:
        return None


def source_in(line):
    # A pair (name, source).
    pieces = line.split(" ", 2)
    if len(pieces) < 3 or not is_name(pieces[1]):
        return None
    source = (pieces[0], pieces[2] if pieces[0] == "made" else tree_in(pieces[2]))
    return (pieces[1], source) if is_source(source) else None


def answered_ask_in(line):
    # A pair (ask, answer) of any kind that a paper may have.
    pieces = line.partition(" ")
    if pieces[0] not in ("thing", "has", "names", "rule"):
        return None
    try:
        got = tree_at(pieces[2], 0, 1)
    except BadTree:
        return None
    rest = pieces[2][got[1]:]
    if not is_text(got[0]) or not rest.startswith(" "):
        return None
    ask = (pieces[0], got[0])
    if rest == " none":
        return (ask, None)
    answer = tree_in(rest[1:])
    return None if answer is None else (ask, answer)


def end_in(line):
    # Any that a paper may have.
    pieces = line.partition(" ")
    word = pieces[0]
    what = pieces[2]
    if word == "said":
        tree = tree_in(what)
        return None if tree is None else (word, tree)
    if word == "fault" and (what in FAULTS or what == "rule"):
        return (word, what)
    return (word, what) if word == "stuck" and is_name(what) else None


def step_in(line):
    # A step's name.
    pieces = line.partition(" ")
    return pieces[2] if pieces[0] == "step" and is_name(pieces[2]) else None


def key_in(line):
    # A pair (rule, own name).
    pieces = line.split(" ", 2)
    if len(pieces) < 3 or pieces[0] != "key" or not is_name(pieces[1]):
        return None
    rule = tree_in(pieces[2])
    return (rule, pieces[1]) if is_rule(rule) else None


def givers_in(line):
    pieces = line.partition(" ")
    if pieces[0] != "way":
        return None
    if pieces[2] == ".":
        return ()
    numbers = [str(number) for number in range(MOST_GIVER + 1)]
    figures = pieces[2].split(",")
    if not all([figure in numbers for figure in figures]):
        return None
    givers = tuple([int(figure) for figure in figures])
    return givers if are_givers(givers) else None


# Readers: takes(line) tells whether a line can stand behind those taken, and takes it; may_end() whether all is there.

class ProjectReader:
    def __init__(self):
        self.pairs = []

    def takes(self, line):
        pair = source_in(line)
        if pair is None or len(self.pairs) == MOST_NAMES:
            return False
        if self.pairs and pair[0] <= self.pairs[-1][0]:
            return False
        self.pairs.append(pair)
        return True

    def may_end(self):
        return True


class PaperReader:
    def __init__(self):
        self.steps = []
        # That of the step that has no end yet.
        self.name = None
        self.asks = []

    def takes(self, line):
        if self.name is None:
            self.name = step_in(line)
            return self.name is not None
        pair = answered_ask_in(line)
        if pair is not None:
            self.asks.append(pair)
            return True
        end = end_in(line)
        if end is None:
            return False
        self.steps.append((self.name, tuple(self.asks), end))
        self.name = None
        self.asks = []
        return True

    def may_end(self):
        return self.name is None


class KeepReader:
    def __init__(self):
        self.kept = Keep()
        self.key = None
        # The run ahead of the one that is read, of the same key; and whether this one has gone alike with it so far.
        self.ahead = None
        self.is_with_it = False
        # Those of the way that has no end yet.
        self.givers = None
        self.asks = []

    def takes(self, line):
        if self.givers is None:
            return self.takes_way(line) or self.takes_key(line)
        return self.takes_ask(line) or self.takes_end(line)

    def may_end(self):
        return self.givers is None and (self.key is None or self.ahead is not None)

    def takes_key(self, line):
        key = key_in(line)
        if key is None or not self.may_end():
            return False
        if self.key is not None and key_order(key) <= key_order(self.key):
            return False
        self.key = key
        self.ahead = None
        return True

    def takes_way(self, line):
        givers = givers_in(line)
        if givers is None or self.key is None:
            return False
        self.givers = givers
        self.asks = []
        self.is_with_it = self.ahead is not None
        return True

    def takes_ask(self, line):
        pair = answered_ask_in(line)
        if not is_answered_ask(pair) or not self.may_part(pair):
            return False
        self.asks.append(pair)
        return True

    def may_part(self, pair):
        # By a greater answer alone; from there on no way ahead goes along.
        if not self.is_with_it:
            return True
        place = len(self.asks)
        if place == len(self.ahead[0]):
            return False
        other = self.ahead[0][place]
        if pair[0] != other[0] or answer_key(pair[1]) < answer_key(other[1]):
            return False
        self.is_with_it = pair == other
        return True

    def takes_end(self, line):
        end = end_in(line)
        if self.is_with_it or not is_end(end):
            return False
        self.ahead = (tuple(self.asks), end)
        self.kept.lay(self.key[0], self.key[1], self.ahead, self.givers)
        self.givers = None
        return True
