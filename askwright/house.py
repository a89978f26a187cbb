"""Houses: the things of a project answered by what is kept, and run where nothing kept serves."""

from askwright.errors import Clash
from askwright.machine import Machine, asks_that_stand
from askwright.plain import PlainOrder, check_name, check_names, has_run, order_from
from askwright.rules import is_rule


class KeptRun:
    # Stands in for a machine: it goes by the tree of its key, and by a machine from where the walk falls on.

    def __init__(self, house, rule, own):
        self.house = house
        self.rule = rule
        self.own = own
        self.gone = []
        self.there = None
        self.machine = None
        self.begun_with = 0
        self.walk_on()

    def now(self):
        return self.there if self.machine is None else self.machine.now()

    def is_waiting(self):
        return self.now()[0] == "asks"

    def answer(self, tree):
        if self.machine is None:
            self.gone.append((self.there[1], tree))
            self.walk_on()
        else:
            self.machine.answer(tree)

    def asked(self):
        return tuple(self.gone) if self.machine is None else self.machine.asked()

    def walk_on(self):
        self.there = self.house.kept_there(self.rule, self.own, tuple([answer for ask, answer in self.gone]))
        if self.there is None:
            self.machine = Machine(self.rule, self.own)
            # All of them stand, but where a lie of the keep led here; there the machine asks anew.
            asks_that_stand(self.machine, self.gone)
            self.begun_with = len(self.gone)


class KeptOrder(PlainOrder):
    # Things gone by what is kept of them, and their runs kept.

    def __init__(self, project, keep, number):
        PlainOrder.__init__(self, project)
        self.held = keep.copy()
        self.number = number

    def keep(self):
        return self.held.copy()

    def runner(self, rule, own):
        return KeptRun(self, rule, own)

    def kept_there(self, rule, own, answers):
        # What the walk of the key's tree comes to by these answers, None where it falls.
        return self.held.walk(rule, own, answers)[1]

    def leave(self, going):
        deed = deed_of(going)
        self.tell(deed)
        if deed[0] == "done":
            self.keep_run(going.rule_run.rule, going.name, (going.rule_run.asked(), going.end))

    def tell(self, deed):
        # For those who tell of all that they did.
        pass

    def keep_run(self, rule, own, run):
        try:
            self.held.lay(rule, own, run, (self.number,))
        except Clash:
            # Only a lie can stand in the way of what a machine did. It stays: nothing is promised behind it.
            return
        self.trust(rule, own, run)

    def trust(self, rule, own, run):
        # For houses that look at the ways of others, and need not look at this one.
        pass


class House(KeptOrder):
    def __init__(self, project, keep, number):
        KeptOrder.__init__(self, project, keep, number)
        self.told = []

    def tell(self, deed):
        self.told.append(deed)

    def answer(self, name):
        check_name(name)
        self.go_through(name)
        return self.answer_yet(name)

    def answers(self, names):
        check_names(names)
        return tuple([self.answer(name) for name in names])

    def project(self):
        return self.given_project

    def set_project(self, project):
        self.begin_anew(project)

    def set_keep(self, keep):
        self.held = keep.copy()

    def deeds(self):
        return tuple(self.told)

    def known(self, name):
        return name in self.found


def deed_of(going):
    kept_run = going.rule_run
    is_stuck = going.end[0] == "stuck"
    if kept_run is None:
        return ("none", going.name)
    many = len(kept_run.asked())
    if kept_run.machine is None:
        return ("stuck" if is_stuck else "used", going.name, many)
    return ("left" if is_stuck else "done", going.name, kept_run.begun_with, many)


def runs_done(deeds):
    return len([deed for deed in deeds if deed[0] == "done"])


def way_of(project, name):
    if not has_run(project.source_of(name)):
        return None
    return way_in(order_from(project, name), name)


def way_in(order, name):
    # Of what an order has gone through, as way_of tells it.
    run = order.full_runs[name]
    if run[1][0] == "stuck":
        return None
    source = order.given_project.source_of(name)
    if source[0] == "rule":
        return way_by(source[1], name, run)
    # What made it stands at the first of its asks.
    return way_by(run[0][0][1], name, (run[0][1:], run[1]))


def way_by(rule, own, run):
    return (rule, own, run) if is_rule(rule) else None
