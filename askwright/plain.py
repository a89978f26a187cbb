"""Plain answers: what each thing of a project comes to, with nothing kept."""

from askwright.errors import BadName, NoThing
from askwright.machine import Machine
from askwright.rules import is_rule
from askwright.trees import is_name


class Going:
    # One thing's full run, as far as it has come.

    def __init__(self, name, source):
        self.name = name
        self.made_by = None
        self.rule_asks = ()
        self.machine = None
        self.end = None
        if source[0] == "made":
            self.made_by = source[1]
        else:
            self.begin(source[1])

    def begin(self, rule):
        if rule is None:
            self.end = ("fault", "lack")
        elif not is_rule(rule):
            self.end = ("fault", "rule")
        else:
            self.machine = Machine(rule, self.name)
            self.look()

    def look(self):
        if not self.machine.is_waiting():
            self.end = self.machine.now()

    def wanted(self):
        if self.machine is None:
            return ("rule", self.made_by)
        return self.machine.now()[1]

    def take(self, answer):
        if self.machine is None:
            self.rule_asks = ((("rule", self.made_by), answer),)
            self.begin(answer)
        else:
            self.machine.answer(answer)
            self.look()

    def full(self):
        asks = () if self.machine is None else self.machine.asked()
        return (self.rule_asks + asks, self.end)


class PlainOrder:
    # Things gone through from a name on, with a stack of its own in the stead of calls within calls.

    def __init__(self, project):
        self.given_project = project
        self.stack = []
        self.under_way = {}
        self.full_runs = {}

    def go_through(self, name):
        self.enter(name)
        while self.stack:
            top = self.stack[-1]
            missing = self.go_on(top)
            if missing is None:
                self.stack.pop()
                self.under_way.pop(top.name)
                self.full_runs[top.name] = top.full()
            else:
                self.enter(missing)

    def enter(self, name):
        source = self.given_project.source_of(name)
        if has_run(source):
            self.stack.append(Going(name, source))
            self.under_way[name] = True

    def go_on(self, going):
        # Up to its end, None, or to the name of a thing that must be gone through first.
        while going.end is None:
            ask = going.wanted()
            if ask[0] in ("has", "names"):
                going.take(self.given_project.looked_up(ask))
                continue
            answer = self.answer(ask[1])
            if answer is None:
                return ask[1]
            if answer[0] == "value":
                going.take(answer[1])
            elif answer[0] == "lack":
                going.take(None)
            else:
                going.end = ("stuck", ask[1])
        return None

    def answer(self, name):
        # None where it is not known yet. What is met while it is gone through itself can't have a value.
        source = self.given_project.source_of(name)
        if source is None:
            return ("lack",)
        if source[0] == "leaf":
            return ("value", source[1])
        if name in self.full_runs:
            return answer_by(self.full_runs[name][1])
        return ("ring",) if name in self.under_way else None


def has_run(source):
    # Leaves and lacks are answered at once, without one.
    return source is not None and source[0] != "leaf"


def answer_by(end):
    return ("value", end[1]) if end[0] == "said" else end


def order_from(project, name):
    if not is_name(name):
        raise BadName("a thing is asked for by a name")
    order = PlainOrder(project)
    order.go_through(name)
    return order


def answer_of(project, name):
    return order_from(project, name).answer(name)


def full_run(project, name):
    order = order_from(project, name)
    if name not in order.full_runs:
        raise NoThing("no rule is run for the name")
    return order.full_runs[name]


def value_of(project, name):
    answer = answer_of(project, name)
    return answer[1] if answer[0] == "value" else None


def chain_of(project, name):
    order = order_from(project, name)
    answer = order.answer(name)
    if answer[0] in ("value", "lack"):
        return ((), ())
    names = [name]
    while answer[0] == "stuck":
        after = answer[1]
        if after in names:
            return (tuple(names), tuple(names[names.index(after):]))
        names.append(after)
        answer = order.answer(after)
    return (tuple(names), ())


def met_by(project, name):
    return tuple(order_from(project, name).full_runs)
