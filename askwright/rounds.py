"""Rounds: how few of them a weaving needs, and how deep a thing lies by that."""

from askwright.keeps import Keep
from askwright.plain import check_names, has_run
from askwright.weave import Weave


def rounds_of(project, names):
    check_names(names)
    return all_rounds(woven(project, names))


def depth_of(project, name):
    check_names((name,))
    if not has_run(project.source_of(name)):
        return 0
    weaving = woven(project, (name,))
    # Whatever else is demanded is waited for, in many steps perhaps, by the thing itself: it ends last.
    rounds = all_rounds(weaving)
    return len(rounds) if weaving.ended(name) is not None else None


def woven(project, names):
    # Rounds hang on no keep, so none is needed.
    return Weave(project, Keep(), names, 0)


def all_rounds(weaving):
    # Lets all go in each round, till none can go.
    rounds = []
    names = weaving.can_go()
    while names != ():
        weaving.go_round(names)
        rounds.append(names)
        names = weaving.can_go()
    return tuple(rounds)
