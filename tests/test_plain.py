"""Promises 5.1 to 5.4: full runs, answers, chains and the plain order."""

import random
import unittest

from askwright.errors import BadName, NoThing
from askwright.machine import Machine
from askwright.plain import answer_of, chain_of, full_run, met_by, value_of
from askwright.project import Project
from askwright.rules import is_rule
from helpers import NO_NAMES, asks_for, passes_on, project_of, some_project


class Leaves(unittest.TestCase):
    def test_leaf_and_lack(self):
        project = project_of(a=("leaf", ("x", ())), b=("leaf", ("say a",)))
        self.assertEqual(answer_of(project, "a"), ("value", ("x", ())))
        self.assertEqual(value_of(project, "a"), ("x", ()))
        self.assertEqual(answer_of(project, "b"), ("value", ("say a",)))
        self.assertEqual(answer_of(project, "c"), ("lack",))
        self.assertIsNone(value_of(project, "c"))
        for name in ("a", "b", "c"):
            self.assertRaises(NoThing, full_run, project, name)
            self.assertEqual(chain_of(project, name), ((), ()))
            self.assertEqual(met_by(project, name), ())

    def test_an_empty_value_is_a_value(self):
        project = project_of(a=("leaf", ""), b=("rule", ("say a",)), c=("leaf", ()))
        self.assertEqual([value_of(project, name) for name in "abc"], ["", "", ()])

    def test_bad_names(self):
        project = project_of(a=("leaf", "x"))
        for name in NO_NAMES:
            for asked in (answer_of, full_run, value_of, chain_of, met_by):
                self.assertRaises(BadName, asked, project, name)


class Rules(unittest.TestCase):
    def test_asks_of_each_kind(self):
        rule = ("text b x", "ask a b", "has c b", "text d q", "has e d", "names f d", "row g", "put g a", "put g c",
                "put g e", "put g f", "say g")
        project = project_of(x=("leaf", "tree"), main=("rule", rule))
        asks = ((("thing", "x"), "tree"), (("has", "x"), "yes"), (("has", "q"), "no"), (("names", "q"), ()))
        self.assertEqual(full_run(project, "main"), (asks, ("said", ("tree", "yes", "no", ()))))
        self.assertEqual(answer_of(project, "main"), ("value", ("tree", "yes", "no", ())))
        self.assertEqual(value_of(project, "main"), ("tree", "yes", "no", ()))

    def test_has_and_names_see_things_without_a_value(self):
        project = project_of(ring=passes_on("ring"), main=("rule", ("text b ring", "has a b", "names c b", "say c")))
        self.assertEqual(full_run(project, "main"),
                         (((("has", "ring"), "yes"), (("names", "ring"), ("ring",))), ("said", ("ring",))))
        self.assertEqual(met_by(project, "main"), ("main",))

    def test_a_lack_is_a_fault_of_the_one_that_asks(self):
        project = project_of(main=asks_for("x", "q", "x"), x=("leaf", ""))
        self.assertEqual(full_run(project, "main"), (((("thing", "x"), ""), (("thing", "q"), None)), ("fault", "lack")))
        self.assertEqual(answer_of(project, "main"), ("fault", "lack"))
        self.assertIsNone(value_of(project, "main"))

    def test_each_fault(self):
        for lines, word in ((("fault",), "told"), (("put a a",), "kind"), (("ask a b",), "name"), (("row a",), "silent"),
                            (("go 1",), "long"), (("text b ,,,,,,,,,,,,,,,,,,,,,,,,,,,,,,,,,,,,,,,,", "text c ,",
                                                   "cut a b c"), "big")):
            project = project_of(main=("rule", lines), up=passes_on("main"))
            self.assertEqual(full_run(project, "main"), ((), ("fault", word)))
            self.assertEqual(answer_of(project, "main"), ("fault", word))
            self.assertEqual(full_run(project, "up"), ((), ("stuck", "main")))
            self.assertEqual(answer_of(project, "up"), ("stuck", "main"))

    def test_what_is_no_rule(self):
        for tree in ("", "say a", (), ("say",), ("fault", ("fault",))):
            project = project_of(main=("rule", tree))
            self.assertEqual(full_run(project, "main"), ((), ("fault", "rule")))
            self.assertEqual(answer_of(project, "main"), ("fault", "rule"))
            self.assertEqual(chain_of(project, "main"), (("main",), ()))
            self.assertEqual(met_by(project, "main"), ("main",))

    def test_stuck_asks_are_not_among_the_asks(self):
        project = project_of(main=asks_for("x", "bad", "x"), x=("leaf", "v"), bad=("rule", ("fault",)))
        self.assertEqual(full_run(project, "main"), (((("thing", "x"), "v"),), ("stuck", "bad")))

    def test_own_name(self):
        project = project_of(a=("rule", ("self a", "say a")), b=("made", "r"), c=("made", "r"),
                             r=("leaf", ("self a", "say a")))
        self.assertEqual([value_of(project, name) for name in "abc"], ["a", "b", "c"])


class Made(unittest.TestCase):
    RULE = ("text b x", "ask a b", "say a")

    def test_by_a_leaf(self):
        project = project_of(main=("made", "r"), r=("leaf", self.RULE), x=("leaf", "v"))
        self.assertEqual(full_run(project, "main"), (((("rule", "r"), self.RULE), (("thing", "x"), "v")), ("said", "v")))
        self.assertEqual(met_by(project, "main"), ("main",))

    def test_by_a_made_value(self):
        writer = ("row a", "text b self c", "put a b", "text b say c", "put a b", "say a")
        project = project_of(main=("made", "r"), r=("rule", writer))
        rule = ("self c", "say c")
        self.assertEqual(full_run(project, "main"), (((("rule", "r"), rule),), ("said", "main")))
        self.assertEqual(met_by(project, "main"), ("r", "main"))

    def test_a_rule_source_is_run_not_taken_as_a_value(self):
        project = project_of(main=("made", "r"), r=("rule", ("text a x", "say a")))
        self.assertEqual(full_run(project, "main"), (((("rule", "r"), "x"),), ("fault", "rule")))

    def test_by_what_is_no_rule_and_by_a_lack(self):
        project = project_of(main=("made", "r"), r=("leaf", ("say",)), other=("made", "q"))
        self.assertEqual(full_run(project, "main"), (((("rule", "r"), ("say",)),), ("fault", "rule")))
        self.assertEqual(answer_of(project, "main"), ("fault", "rule"))
        self.assertEqual(full_run(project, "other"), (((("rule", "q"), None),), ("fault", "lack")))
        self.assertEqual(answer_of(project, "other"), ("fault", "lack"))
        self.assertEqual(chain_of(project, "other"), (("other",), ()))

    def test_by_itself(self):
        project = project_of(main=("made", "main"))
        self.assertEqual(full_run(project, "main"), ((), ("stuck", "main")))
        self.assertEqual(answer_of(project, "main"), ("stuck", "main"))
        self.assertEqual(chain_of(project, "main"), (("main",), ("main",)))
        self.assertEqual(met_by(project, "main"), ("main",))

    def test_by_a_thing_without_a_value(self):
        project = project_of(main=("made", "bad"), bad=("rule", ("fault",)), ring=("made", "gnir"), gnir=("made", "ring"))
        self.assertEqual(full_run(project, "main"), ((), ("stuck", "bad")))
        self.assertEqual(full_run(project, "ring"), ((), ("stuck", "gnir")))
        self.assertEqual(chain_of(project, "main"), (("main", "bad"), ()))
        self.assertEqual(chain_of(project, "ring"), (("ring", "gnir"), ("ring", "gnir")))

    def test_made_things_that_ask_for_their_rule_again(self):
        rule = ("text b r", "ask a b", "size a a", "say a")
        project = project_of(main=("made", "r"), r=("leaf", rule))
        self.assertEqual(full_run(project, "main"), (((("rule", "r"), rule), (("thing", "r"), rule)), ("said", "4")))

    def test_a_made_run_with_a_fault_or_stuck(self):
        project = project_of(main=("made", "r"), r=("leaf", self.RULE), x=("made", "r"))
        self.assertEqual(full_run(project, "main"), (((("rule", "r"), self.RULE),), ("stuck", "x")))
        self.assertEqual(full_run(project, "x"), (((("rule", "r"), self.RULE),), ("stuck", "x")))
        self.assertEqual(chain_of(project, "main"), (("main", "x"), ("x",)))


class Chains(unittest.TestCase):
    def test_to_a_fault(self):
        project = project_of(a=passes_on("b"), b=asks_for("x", "c"), c=("rule", ("fault",)), x=("leaf", "v"))
        self.assertEqual(chain_of(project, "a"), (("a", "b", "c"), ()))
        self.assertEqual(chain_of(project, "b"), (("b", "c"), ()))
        self.assertEqual(chain_of(project, "c"), (("c",), ()))

    def test_a_ring_of_one(self):
        project = project_of(a=passes_on("a"), b=passes_on("a"), c=passes_on("b"))
        self.assertEqual(chain_of(project, "a"), (("a",), ("a",)))
        self.assertEqual(chain_of(project, "b"), (("b", "a"), ("a",)))
        self.assertEqual(chain_of(project, "c"), (("c", "b", "a"), ("a",)))

    def test_a_ring_from_each_place(self):
        project = project_of(a=passes_on("b"), b=passes_on("c"), c=passes_on("a"), d=passes_on("c"))
        self.assertEqual(chain_of(project, "a"), (("a", "b", "c"), ("a", "b", "c")))
        self.assertEqual(chain_of(project, "c"), (("c", "a", "b"), ("c", "a", "b")))
        self.assertEqual(chain_of(project, "d"), (("d", "c", "a", "b"), ("c", "a", "b")))
        for name, other in (("a", "b"), ("b", "c"), ("c", "a"), ("d", "c")):
            self.assertEqual(answer_of(project, name), ("stuck", other))

    def test_things_with_a_value(self):
        project = project_of(a=passes_on("b"), b=("leaf", "v"))
        self.assertEqual(chain_of(project, "a"), ((), ()))
        self.assertEqual(chain_of(project, "b"), ((), ()))
        self.assertEqual(chain_of(project, "q"), ((), ()))

    def long_project(self, last):
        names = [f"n{number:02}" for number in range(60)]
        pairs = [(name, passes_on(after)) for name, after in zip(names, names[1:])]
        return tuple(names), Project(tuple(pairs) + ((names[-1], last),))

    def test_sixty_things(self):
        names, project = self.long_project(("rule", ("fault",)))
        self.assertEqual(chain_of(project, "n00"), (names, ()))
        names, project = self.long_project(passes_on("n00"))
        self.assertEqual(chain_of(project, "n00"), (names, names))
        self.assertEqual(chain_of(project, "n30"), (names[30:] + names[:30],) * 2)
        names, project = self.long_project(passes_on("n40"))
        self.assertEqual(chain_of(project, "n00"), (names, names[40:]))
        names, project = self.long_project(("leaf", "deep"))
        self.assertEqual(value_of(project, "n00"), "deep")
        self.assertEqual(met_by(project, "n00"), names[:59][::-1])
        self.assertEqual(chain_of(project, "n00"), ((), ()))


class Order(unittest.TestCase):
    def test_each_once_as_they_end(self):
        project = project_of(a=asks_for("b", "c", "x"), b=asks_for("d"), c=asks_for("d", "b"), d=("rule", ("say a",)),
                             x=("leaf", ""), e=("rule", ("say a",)))
        self.assertEqual(met_by(project, "a"), ("d", "b", "c", "a"))
        self.assertEqual(met_by(project, "c"), ("d", "b", "c"))
        self.assertEqual(met_by(project, "d"), ("d",))

    def test_nothing_behind_where_it_is_stuck(self):
        project = project_of(a=asks_for("b", "c"), b=("rule", ("fault",)), c=("rule", ("say a",)))
        self.assertEqual(met_by(project, "a"), ("b", "a"))

    def test_rings(self):
        project = project_of(a=passes_on("b"), b=passes_on("c"), c=passes_on("a"), d=asks_for("x", "b"), x=passes_on("v"),
                             v=("leaf", ""))
        self.assertEqual(met_by(project, "a"), ("c", "b", "a"))
        self.assertEqual(met_by(project, "b"), ("a", "c", "b"))
        self.assertEqual(met_by(project, "d"), ("x", "a", "c", "b", "d"))

    def test_rules_are_gone_through_first(self):
        project = project_of(a=("made", "r"), r=("rule", ("row a", "text b fault", "put a b", "say a")), b=asks_for("a"))
        self.assertEqual(met_by(project, "b"), ("r", "a", "b"))


def plain_step(project, values, name):
    """The full run as far as some values go, told by the words of the document alone."""
    kind, tree = project.source_of(name)
    asks = []
    if kind == "made":
        maker = tree
        if project.source_of(maker) is not None and maker not in values:
            return ((), ("stuck", maker))
        tree = values.get(maker)
        asks.append((("rule", maker), tree))
        if tree is None:
            return (tuple(asks), ("fault", "lack"))
    if not is_rule(tree):
        return (tuple(asks), ("fault", "rule"))
    machine = Machine(tree, name)
    while machine.now()[0] == "asks":
        kind, text = machine.now()[1]
        if kind != "thing":
            machine.answer(project.looked_up((kind, text)))
        elif project.source_of(text) is not None and text not in values:
            return (tuple(asks) + machine.asked(), ("stuck", text))
        else:
            machine.answer(values.get(text))
    return (tuple(asks) + machine.asked(), machine.now())


def least_values(project):
    """All values, by rounds from the leaves on until a round brings none."""
    values = {name: source[1] for name, source in project.sources() if source[0] == "leaf"}
    while True:
        fresh = {}
        for name, source in project.sources():
            if name not in values:
                end = plain_step(project, values, name)[1]
                if end[0] == "said":
                    fresh[name] = end[1]
        if not fresh:
            return values
        values.update(fresh)


def plain_order(project, values, name, met):
    source = project.source_of(name)
    if source is None or source[0] == "leaf" or name in met:
        return []
    met.append(name)
    asks, end = plain_step(project, values, name)
    wanted = [ask[1] for ask, answer in asks if ask[0] in ("thing", "rule")]
    if end[0] == "stuck":
        wanted.append(end[1])
    found = []
    for other in wanted:
        found += plain_order(project, values, other, met)
    return found + [name]


class ManyProjects(unittest.TestCase):
    def test_as_the_rules_of_answers_tell(self):
        chance = random.Random(42)
        ends = {}
        for step in range(400):
            names, project = some_project(chance)
            values = least_values(project)
            for name in names:
                self.check_name(project, values, name, ends)
        for word in ("said", "fault", "stuck"):
            self.assertGreater(ends[word], 100)

    def check_name(self, project, values, name, ends):
        self.assertEqual(value_of(project, name), values.get(name))
        self.assertEqual(met_by(project, name), tuple(plain_order(project, values, name, [])))
        source = project.source_of(name)
        if source is not None and source[0] != "leaf":
            run = plain_step(project, values, name)
            self.assertEqual(full_run(project, name), run)
            self.assertEqual(answer_of(project, name), ("value", run[1][1]) if run[1][0] == "said" else run[1])
            ends[run[1][0]] = ends.get(run[1][0], 0) + 1
        self.check_chain(project, name)

    def check_chain(self, project, name):
        names, ring = chain_of(project, name)
        if answer_of(project, name)[0] in ("value", "lack"):
            self.assertEqual((names, ring), ((), ()))
            return
        self.assertEqual(names[0], name)
        self.assertEqual(len(set(names)), len(names))
        for one, after in zip(names, names[1:]):
            self.assertEqual(answer_of(project, one), ("stuck", after))
        last = answer_of(project, names[-1])
        if ring:
            self.assertEqual(names[-len(ring):], ring)
            self.assertEqual(last, ("stuck", ring[0]))
        else:
            self.assertEqual(last[0], "fault")


if __name__ == "__main__":
    unittest.main()
