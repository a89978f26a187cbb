"""Trees of texts: what is one, how it is written and read, their order; and names."""

from askwright.errors import BadTree

MOST_SIGNS = 300
MOST_PARTS = 40
MOST_SIZE = 600
MOST_DEPTH = 12
MOST_NAME_SIGNS = 24
LETTERS = "abcdefghijklmnopqrstuvwxyz"
NAME_SIGNS = "abcdefghijklmnopqrstuvwxyz0123456789./"
# The percent sign, by its number: the sign itself is not written in this program.
PERCENT = 37


def is_text(value):
    if not isinstance(value, str) or len(value) > MOST_SIGNS:
        return False
    for sign in value:
        if sign < " " or sign > "~" or ord(sign) == PERCENT:
            return False
    return True


def is_tree(value):
    # The size is counted on the way, so that rows without end or of shared parts are left early.
    size = 0
    waiting = [(value, 1)]
    while waiting:
        pair = waiting.pop()
        part = pair[0]
        depth = pair[1]
        if isinstance(part, tuple) and len(part) <= MOST_PARTS:
            size += 1
            waiting.extend([(below, depth + 1) for below in part])
        elif is_text(part):
            size += 1 + len(part)
        else:
            return False
        if depth > MOST_DEPTH or size > MOST_SIZE:
            return False
    return True


def tree_size(tree):
    size = 0
    waiting = [tree]
    while waiting:
        part = waiting.pop()
        if isinstance(part, tuple):
            size += 1
            waiting.extend(part)
        else:
            size += 1 + len(part)
    return size


def tree_depth(tree):
    depth = 0
    level = [tree]
    while level:
        depth += 1
        below = []
        for part in level:
            if isinstance(part, tuple):
                below.extend(part)
        level = below
    return depth


def tree_text(tree):
    if isinstance(tree, tuple):
        parts = " ".join([tree_text(part) for part in tree])
        return f"({parts})"
    signs = tree.replace("\\", "\\\\").replace('"', '\\"')
    return f'"{signs}"'


def read_tree(text):
    got = tree_at(text, 0, 1)
    if got[1] != len(text):
        raise BadTree("something stands behind the tree")
    if not is_tree(got[0]):
        raise BadTree("what is written is no tree")
    return got[0]


def tree_at(text, place, depth):
    # The bound keeps the calls few, however many brackets stand there.
    if depth > MOST_DEPTH:
        raise BadTree("rows stand too deep within one another")
    sign = text[place:place + 1]
    if sign == '"':
        return words_at(text, place + 1)
    if sign == "(":
        return row_at(text, place + 1, depth)
    raise BadTree("no tree begins there")


def words_at(text, place):
    signs = []
    while text[place:place + 1] != '"':
        if text[place:place + 1] == "\\":
            place += 1
            if text[place:place + 1] not in ('"', "\\"):
                raise BadTree("a backslash stands ahead of another sign")
        if place >= len(text):
            raise BadTree("a text is not closed")
        signs.append(text[place])
        place += 1
    return ("".join(signs), place + 1)


def row_at(text, place, depth):
    parts = []
    while text[place:place + 1] != ")":
        if parts:
            if text[place:place + 1] != " ":
                raise BadTree("no blank stands between two parts")
            place += 1
        got = tree_at(text, place, depth + 1)
        parts.append(got[0])
        place = got[1]
    return (tuple(parts), place + 1)


def tree_key(tree):
    # Python can't put a text and a tuple in an order, so each goes by its kind first.
    if isinstance(tree, tuple):
        return (2, tuple([tree_key(part) for part in tree]))
    return (1, tree)


def is_ahead(one, other):
    return tree_key(one) < tree_key(other)


def is_name(value):
    if not isinstance(value, str) or not 1 <= len(value) <= MOST_NAME_SIGNS:
        return False
    if value[0] not in LETTERS:
        return False
    return all([sign in NAME_SIGNS for sign in value])
