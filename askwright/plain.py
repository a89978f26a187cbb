"""Plain answers: what each thing of a project comes to, with nothing kept."""

from askwright.errors import BadName, NoThing
from askwright.machine import Machine
from askwright.rules import is_rule
from askwright.trees import is_name


class Going:
    # One thing's full run, as far as it has come; the order it is gone through in gives it its runner.

    def __init__(self, name, source, order):
        self.name = name
        self.order = order
        self.made_by = None
        self.rule_asks = ()
        self.rule_run = None
        self.end = None
        if source[0] == "made":
            self.made_by = source[1]
        else:
            self.begin(source[1])

    def begin(self, rule):
        if rule is None:
            self.end = ("fault", "lack")
        elif not is_rule(rule):
            self.end = ("fault", "rule")
        else:
            self.rule_run = self.order.runner(rule, self.name)
            self.look()

    def look(self):
        if not self.rule_run.is_waiting():
            self.end = self.rule_run.now()

    def wanted(self):
        if self.rule_run is None:
            return ("rule", self.made_by)
        return self.rule_run.now()[1]

    def take(self, answer):
        if self.rule_run is None:
            self.rule_asks = ((("rule", self.made_by), answer),)
            self.begin(answer)
        else:
            self.rule_run.answer(answer)
            self.look()

    def full(self):
        asks = () if self.rule_run is None else self.rule_run.asked()
        return (self.rule_asks + asks, self.end)


class PlainOrder:
    # Things gone through from a name on, with a stack of its own in the stead of calls within calls.

    def __init__(self, project):
        self.begin_anew(project)

    def begin_anew(self, project):
        self.given_project = project
        self.stack = []
        self.under_way = {}
        self.full_runs = {}
        self.found = {}

    def go_through(self, name):
        if self.answer_yet(name) is None:
            self.enter(name)
        while self.stack:
            top = self.stack[-1]
            missing = self.go_on(top)
            if missing is None:
                self.stack.pop()
                self.under_way.pop(top.name)
                self.settle(top)
            else:
                self.enter(missing)

    def enter(self, name):
        self.stack.append(Going(name, self.given_project.source_of(name), self))
        self.under_way[name] = True

    def settle(self, going):
        self.full_runs[going.name] = going.full()
        self.found[going.name] = answer_by(going.end)
        self.leave(going)

    def runner(self, rule, own):
        # What runs a rule: a machine, or what stands in for one.
        return Machine(rule, own)

    def leave(self, going):
        # For those who keep or tell something of each thing that ends.
        pass

    def go_on(self, going):
        # Up to its end, None, or to the name of a thing that must be gone through first.
        while going.end is None:
            ask = going.wanted()
            if ask[0] in ("has", "names"):
                going.take(self.given_project.looked_up(ask))
                continue
            answer = self.answer_yet(ask[1])
            if answer is None:
                return ask[1]
            if answer[0] == "value":
                going.take(answer[1])
            elif answer[0] == "lack":
                going.take(None)
            else:
                going.end = ("stuck", ask[1])
        return None

    def answer_yet(self, name):
        # None where it must be gone through first. What is met while it is gone through itself can't have a value.
        if name in self.under_way:
            return ("ring",)
        at_once = answer_at_once(self.given_project.source_of(name))
        if at_once is not None:
            self.found[name] = at_once
        return self.found.get(name)


def answer_at_once(source):
    # That of a leaf or a lack; None of what has a full run.
    if source is None:
        return ("lack",)
    return ("value", source[1]) if source[0] == "leaf" else None


def has_run(source):
    return answer_at_once(source) is None


def answer_by(end):
    return ("value", end[1]) if end[0] == "said" else end


def check_name(name):
    if not is_name(name):
        raise BadName("a thing is asked for by a name")


def check_names(names):
    for name in names:
        check_name(name)


def order_from(project, name):
    return order_over(project, (name,))


def order_over(project, names):
    check_names(names)
    order = PlainOrder(project)
    for name in names:
        order.go_through(name)
    return order


def answer_of(project, name):
    return order_from(project, name).answer_yet(name)


def full_run(project, name):
    order = order_from(project, name)
    if name not in order.full_runs:
        raise NoThing("no rule is run for the name")
    return order.full_runs[name]


def value_of(project, name):
    answer = answer_of(project, name)
    return answer[1] if answer[0] == "value" else None


def chain_of(project, name):
    order = order_from(project, name)
    answer = order.answer_yet(name)
    if answer[0] in ("value", "lack"):
        return ((), ())
    names = [name]
    while answer[0] == "stuck":
        after = answer[1]
        if after in names:
            return (tuple(names), tuple(names[names.index(after):]))
        names.append(after)
        answer = order.answer_yet(after)
    return (tuple(names), ())


def met_by(project, name):
    return tuple(order_from(project, name).full_runs)
