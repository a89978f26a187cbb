"""Judging a paper with the project alone, whoever wrote it."""

from askwright.machine import Machine, asks_that_stand, does
from askwright.plain import answer_at_once, answer_by, check_name, has_run
from askwright.rules import is_rule
from askwright.trees import is_name


def first_wrong(project, paper):
    ends = first_ends(paper)
    earlier = {}
    for place, step in enumerate(paper):
        word = wrong_word(project, ends, earlier, step)
        if word is not None:
            return (place, word)
        earlier[step[0]] = step[2]
    return None


def first_ends(paper):
    ends = {}
    for name, asks, end in paper:
        ends.setdefault(name, end)
    return ends


def wrong_word(project, ends, earlier, step):
    # The first look that fails at a step, None where it is right; ends of all steps, and of the earlier ones.
    name = step[0]
    end = step[2]
    source = project.source_of(name)
    if name in earlier or not has_run(source):
        return "name"
    if not all([is_right_answer(project, earlier, ask, answer) for ask, answer in step[1]]):
        return "answer"
    if not is_full_run(source, name, step[1], end):
        return "run"
    if end[0] == "stuck" and (end[1] not in ends or ends[end[1]][0] == "said"):
        return "stuck"
    return None


def is_right_answer(project, earlier, ask, answer):
    if ask[0] != "names" and not is_name(ask[1]):
        return False
    if ask[0] in ("has", "names"):
        return answer == project.looked_up(ask)
    if ask[0] not in ("thing", "rule"):
        return False
    source = project.source_of(ask[1])
    if has_run(source):
        return earlier.get(ask[1]) == ("said", answer)
    return answer == (None if source is None else source[1])


def is_full_run(source, name, asks, end):
    rule = source[1]
    if source[0] == "made":
        if asks == ():
            return end == ("stuck", source[1])
        if asks[0][0] != ("rule", source[1]):
            return False
        rule = asks[0][1]
        asks = asks[1:]
    if rule is None:
        return asks == () and end == ("fault", "lack")
    if not is_rule(rule):
        return asks == () and end == ("fault", "rule")
    return is_run_of(rule, name, asks, end)


def is_run_of(rule, own, asks, end):
    if end[0] != "stuck":
        return does(rule, own, (asks, end))
    machine = Machine(rule, own)
    return asks_that_stand(machine, asks) == len(asks) and machine.now() == ("asks", ("thing", end[1]))


def shown(project, paper, name):
    check_name(name)
    if first_wrong(project, paper) is not None:
        return None
    ends = first_ends(paper)
    if name in ends:
        return answer_by(ends[name])
    return answer_at_once(project.source_of(name))
