"""Weaving: things that go on by stretches, in any order, and wait for one another."""

from askwright.errors import NoDeed
from askwright.house import KeptOrder
from askwright.plain import Going, has_run


class Weave(KeptOrder):
    def __init__(self, project, keep, names, number):
        KeptOrder.__init__(self, project, keep, number)
        # All that is demanded; None where it has not gone yet.
        self.goings = {}
        self.awaited = {}
        for name in names:
            self.demand(name)

    def demanded(self):
        return tuple(sorted(self.goings))

    def can_go(self):
        return tuple([name for name in self.demanded() if self.is_free(name)])

    def go(self, name):
        return self.go_round((name,))[0]

    def go_round(self, names):
        for place, name in enumerate(names):
            if not self.is_free(name) or name in names[:place]:
                raise NoDeed("a round lets each of those that can go go once")
        told = tuple([self.go_stretch(name) for name in names])
        # Only now: within a round nothing is known of what ends in it.
        for name, news in zip(names, told):
            if news[0] == "ended":
                self.settle(self.goings[name])
        return told

    def ended(self, name):
        return self.full_runs[name][1] if name in self.full_runs else None

    def waits_for(self, name):
        return self.awaited.get(name)

    def answer(self, name):
        answer = self.answer_yet(name)
        if answer is not None:
            return answer
        if name not in self.awaited or self.can_go() != ():
            raise NoDeed("it has no answer yet")
        return ("stuck", self.awaited[name])

    def begun(self):
        found = []
        for name in self.demanded():
            kept_run = None if self.goings[name] is None else self.goings[name].rule_run
            if kept_run is not None and kept_run.machine is not None:
                found.append((name, kept_run.begun_with))
        return tuple(found)

    def demand(self, name):
        if has_run(self.given_project.source_of(name)):
            self.goings.setdefault(name, None)

    def is_free(self, name):
        if name not in self.goings or name in self.full_runs:
            return False
        return name not in self.awaited or self.awaited[name] in self.full_runs

    def go_stretch(self, name):
        if self.goings[name] is None:
            self.goings[name] = Going(name, self.given_project.source_of(name), self)
        other = self.go_on(self.goings[name])
        self.awaited.pop(name, None)
        if other is None:
            return ("ended", self.goings[name].end)
        self.awaited[name] = other
        self.demand(other)
        return ("waits", other)
