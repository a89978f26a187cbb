"""What asks, their answers, ends and whole runs look like."""

from askwright.trees import is_name, is_text, is_tree

FAULTS = ("told", "kind", "name", "lack", "big", "silent", "long")


def is_pair(value):
    return isinstance(value, tuple) and len(value) == 2


def is_ask(value):
    if not is_pair(value):
        return False
    if value[0] == "names":
        return is_text(value[1])
    return value[0] in ("thing", "has") and is_name(value[1])


def is_row_of_names(tree):
    return isinstance(tree, tuple) and all([is_name(part) for part in tree])


def is_answer(ask, answer):
    # Whether a machine that waits at this ask takes the answer.
    if answer is None:
        return ask[0] == "thing"
    if not is_tree(answer):
        return False
    if ask[0] == "has":
        return answer in ("yes", "no")
    return ask[0] == "thing" or is_row_of_names(answer)


def is_end(value):
    if not is_pair(value):
        return False
    if value[0] == "said":
        return is_tree(value[1])
    return value[0] == "fault" and value[1] in FAULTS


def is_answered_ask(value):
    return is_pair(value) and is_ask(value[0]) and is_answer(value[0], value[1])


def is_run(value):
    if not is_pair(value) or not isinstance(value[0], tuple):
        return False
    return all([is_answered_ask(pair) for pair in value[0]]) and is_end(value[1])
