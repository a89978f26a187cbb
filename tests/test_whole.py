"""Promises 0.1 to 0.3 over the whole program: the interface, and that all its ways of telling tell the same."""

import importlib
import inspect
import random
import unittest

from askwright.desk import Desk
from askwright.errors import WrightError
from askwright.feet import foot_of, reason, stands
from askwright.house import House
from askwright.judge import first_wrong, shown
from askwright.keeps import Keep
from askwright.least import least_keep
from askwright.lies import cleared, liars
from askwright.papers import paper_of, put_together
from askwright.plain import answer_of, chain_of, met_by
from askwright.project import Project
from askwright.report import report
from askwright.rounds import rounds_of
from askwright.street import Street
from askwright.texts import keep_text, paper_text, project_text, read_keep, read_paper, read_project
from askwright.wary import WaryHouse
from askwright.weave import Weave
from helpers import layered_change, layered_project, some_change, some_keep, some_project, ways_in

# Each file with its functions, and its classes with their methods, as the document tells them.
FUNCTIONS = """
trees is_tree(value) is_name(value) tree_size(tree) tree_depth(tree) tree_text(tree) read_tree(text) is_ahead(one,other)
rules rule_rows(tree) bad_line(tree) is_rule(value) line_text(word,parts) asking_lines(tree)
machine replayed(rule,own,answers) does(rule,own,run)
project with_source(project,name,source) without(project,name) unlike_names(project,other) alike_on(project,other,names,asks) is_source(value)
plain answer_of(project,name) full_run(project,name) value_of(project,name) chain_of(project,name) met_by(project,name)
asktree clash_of(run,other) first_clash(tree,other)
keeps laid_on(keep,other) clashes(keep,other)
house runs_done(deeds) way_of(project,name)
papers paper_of(project,name) put_together(paper,other)
judge first_wrong(project,paper) shown(project,paper,name)
lies lie_place(rule,own,run) lies_of(keep) cleared(keep) liars(keep)
sharing put_all(keep,other) trusted(keep,givers) shunned(keep,givers)
rounds rounds_of(project,names) depth_of(project,name)
feet foot_of(project,name) stands(project,name) reason(project,other,name) reason_holds(project,other,name,told)
least ways_used(project,names) least_keep(states)
texts project_text(project) read_project(text) paper_text(paper) read_paper(text) keep_text(keep) read_keep(text)
report report(project,names)
"""
CLASSES = """
machine Machine(rule,own) now() answer(tree) asked() lines() copy()
project Project(sources) sources() source_of(name) looked_up(ask)
asktree AskTree() put(run,givers) ways() walk(answers) take_out(run) copy()
keeps Keep() put(rule,own,run,givers) tree_of(rule,own) kept_keys() walk(rule,own,answers) take_out(rule,own,run) many() copy()
house House(project,keep,number) answer(name) answers(names) project() keep() set_project(project) set_keep(keep) deeds() known(name)
wary WaryHouse(project,keep,number) answer(name) answers(names) project() keep() set_project(project) set_keep(keep) deeds() known(name) thrown()
street Street(projects,wary) build(i,names) give(i,project) take(i,j) take_trusted(i,j,givers) take_shunned(i,j,givers) lay(i,keep) keep_of(i) deeds_of(i) done_in_all()
weave Weave(project,keep,names,number) demanded() can_go() go(name) go_round(names) ended(name) waits_for(name) answer(name) begun() keep()
desk Desk() asked(line) run(text)
"""
REFUSALS = "BadTree BadName BadRule NoAsk BadAnswer NoThing BadThing Clash BadKeep NoDeed BadText".split()


def called(name, value):
    """How something is called: its name and its arguments, none of them with a value of its own."""
    parameters = [parameter for parameter in inspect.signature(value).parameters.values() if parameter.name != "self"]
    if any(parameter.default is not inspect.Parameter.empty for parameter in parameters):
        return None
    return f"{name}({','.join(parameter.name for parameter in parameters)})"


class Interface(unittest.TestCase):
    def each_file(self, table):
        for line in table.strip().split("\n"):
            file, *names = line.split(" ")
            yield importlib.import_module(f"askwright.{file}"), names

    def test_functions(self):
        for module, names in self.each_file(FUNCTIONS):
            for told in names:
                name = told.partition("(")[0]
                self.assertEqual(called(name, getattr(module, name)), told)

    def test_classes(self):
        for module, names in self.each_file(CLASSES):
            kind = getattr(module, names[0].partition("(")[0])
            self.assertEqual(called(kind.__name__, kind), names[0])
            for told in names[1:]:
                name = told.partition("(")[0]
                self.assertEqual(called(name, getattr(kind, name)), told)

    def test_refusals(self):
        errors = importlib.import_module("askwright.errors")
        self.assertEqual(WrightError.__bases__, (ValueError,))
        for name in REFUSALS:
            self.assertEqual(getattr(errors, name).__bases__, (WrightError,))


class Histories(unittest.TestCase):
    def each_project(self, seed, many):
        chance = random.Random(seed)
        for step in range(many):
            yield (chance, *chance.choice((some_project, layered_project, layered_project))(chance))

    def test_all_tell_the_same(self):
        for chance, names, project in self.each_project(107, 80):
            answers = tuple(answer_of(project, name) for name in names)
            keep = some_keep(chance, project, names)
            weave = Weave(project, cleared(keep), tuple(names), 1)
            while weave.can_go():
                weave.go(chance.choice(weave.can_go()))
            paper = ()
            for name in chance.sample(names, len(names)):
                paper = put_together(paper, paper_of(project, name))
            self.assertEqual(House(project, cleared(keep), 1).answers(tuple(names)), answers)
            self.assertEqual(WaryHouse(project, keep, 1).answers(tuple(names)), answers)
            self.assertEqual(House(project, least_keep(((project, tuple(names)),)), 1).answers(tuple(names)), answers)
            self.assertEqual(tuple(weave.answer(name) for name in names), answers)
            self.assertEqual(tuple(shown(project, paper, name) for name in names), answers)
            self.assertEqual(Street((project,), (True,)).build(0, tuple(names)), answers)

    def test_a_project_told_to_a_desk(self):
        for chance, names, project in self.each_project(109, 80):
            desk = Desk()
            text = project_text(project)
            self.assertEqual(desk.run(text), ("done",) * text.count("\n"))
            house = House(project, Keep(), 0)
            lines = report(project, tuple(names))
            built = desk.asked(" ".join(["build"] + names)).split("\n")
            house.answers(tuple(names))
            self.assertEqual(desk.asked("deeds"), "\n".join(" ".join(map(str, deed)) for deed in house.deeds()))
            self.assertEqual(desk.asked("keep"), str(house.keep().many()))
            for name, answer, line in zip(names, built, lines):
                self.assertTrue(line.startswith(f"{name} {answer} paper "))
                paper = desk.asked(f"paper {name}")
                self.assertEqual(read_paper(paper + "\n" if paper else ""), paper_of(project, name))
                self.assertEqual(tuple(desk.asked(f"foot {name}").split(" ")), foot_of(project, name)[0])
                self.assertEqual(desk.asked(f"chain {name}").partition(" ring ")[0], " ".join(chain_of(project, name)[0]))
            self.assertEqual(desk.asked(" ".join(["rounds"] + names)), "\n".join(" ".join(those) for those in rounds_of(project, tuple(names))))

    def test_a_keep_read_back_serves_as_the_keep(self):
        for chance, names, project in self.each_project(113, 80):
            keep = some_keep(chance, project, names)
            other = read_keep(keep_text(keep))
            self.assertEqual(liars(other), liars(keep))
            for kind in (House, WaryHouse):
                houses = (kind(project, keep, 3), kind(project, other, 3))
                self.assertEqual(houses[0].answers(tuple(names)), houses[1].answers(tuple(names)))
                self.assertEqual(houses[0].deeds(), houses[1].deeds())
                self.assertEqual(keep_text(houses[0].keep()), keep_text(houses[1].keep()))

    def test_a_paper_read_back_is_judged_as_the_paper(self):
        wrong = 0
        for chance, names, project in self.each_project(127, 120):
            paper = put_together(paper_of(project, chance.choice(names)), paper_of(project, chance.choice(names)))
            told = read_paper(paper_text(paper))
            other = some_change(chance, project, names)
            for judged in (project, other):
                self.assertEqual(first_wrong(judged, told), first_wrong(judged, paper))
                wrong += first_wrong(judged, told) is not None
                for name in names:
                    self.assertEqual(shown(judged, told, name), shown(judged, paper, name))
        self.assertGreater(wrong, 20)

    def test_a_project_read_back_is_the_project(self):
        for chance, names, project in self.each_project(131, 60):
            other = read_project(project_text(project))
            turned = layered_change(chance, project, names)
            for name in names:
                self.assertEqual(paper_of(other, name), paper_of(project, name))
                self.assertEqual(met_by(other, name), met_by(project, name))
                self.assertEqual(reason(other, turned, name), reason(project, turned, name))
                self.assertIsNone(reason(other, project, name))

    def test_nothing_handed_in_is_changed_and_all_is_told_alike_again(self):
        for chance, names, project in self.each_project(137, 40):
            keep = some_keep(chance, project, names)
            ahead = (project.sources(), ways_in(keep))

            def told():
                house = WaryHouse(project, keep, 2)
                street = Street((project, project), (False, True))
                street.lay(1, keep)
                weave = Weave(project, cleared(keep), tuple(names), 0)
                weave.go_round(weave.can_go())
                return (house.answers(tuple(names)), house.deeds(), street.build(1, tuple(names)), street.deeds_of(1), weave.demanded(),
                        weave.begun(), report(project, tuple(names)), keep_text(keep), [stands(project, name) for name in names])

            self.assertEqual(told(), told())
            self.assertEqual((project.sources(), ways_in(keep)), ahead)

    def test_what_is_told_is_the_askers_own(self):
        for chance, names, project in self.each_project(139, 40):
            keep = least_keep(((project, tuple(names)),))
            house = House(project, keep, 0)
            ahead = ways_in(keep)
            for told in (house.keep(), keep.copy(), read_keep(keep_text(keep)), Weave(project, keep, (), 0).keep()):
                told.put(("fault",), "other", ((), ("fault", "told")), ())
                self.assertEqual(told.many(), len(ahead) + 1)
            self.assertEqual((ways_in(keep), ways_in(house.keep())), (ahead, ahead))
            self.assertEqual(Project(project.sources()).sources(), project.sources())


if __name__ == "__main__":
    unittest.main()
