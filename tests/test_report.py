"""Promise 14.3: reports."""

import random
import unittest

from askwright.papers import paper_of
from askwright.plain import answer_of, chain_of
from askwright.project import Project
from askwright.report import report
from askwright.rounds import rounds_of
from askwright.trees import tree_text
from helpers import asks_for, layered_project, passes_on, project_of, some_project

FAULT = ("rule", ("fault",))
PROJECT = project_of(x=("leaf", ('"', ())), one=passes_on("x"), two=asks_for("one", "x"), bad=FAULT, stuck=asks_for("one", "bad"),
                     after=passes_on("stuck"), a=passes_on("b"), b=passes_on("a"), out=("made", "a"), no=("rule", "no"), lacks=passes_on("q"),
                     m=("made", "r"), r=("leaf", ("self a", "say a")))


class Reports(unittest.TestCase):
    def check(self, names, *lines):
        self.assertEqual(report(PROJECT, names), lines)

    def test_of_no_names(self):
        self.check((), "rounds 0")
        self.assertEqual(report(Project(()), ()), ("rounds 0",))

    def test_values_and_lacks(self):
        self.check(("x",), 'x value ("\\"" ()) paper 0', "rounds 0")
        self.check(("q",), "q lack paper 0", "rounds 0")
        self.check(("one",), 'one value ("\\"" ()) paper 1', "rounds 1")
        self.check(("two",), 'two value (("\\"" ()) ("\\"" ())) paper 2', "rounds 3")
        self.check(("m",), 'm value "m" paper 1', "rounds 1")

    def test_chains(self):
        self.check(("bad",), "bad fault told paper 1 chain bad", "rounds 1")
        self.check(("no",), "no fault rule paper 1 chain no", "rounds 1")
        self.check(("lacks",), "lacks fault lack paper 1 chain lacks", "rounds 1")
        self.check(("stuck",), "stuck stuck bad paper 3 chain stuck bad", "rounds 5")
        self.check(("after",), "after stuck stuck paper 4 chain after stuck bad", "rounds 7")

    def test_rings(self):
        self.check(("a",), "a stuck b paper 2 chain a b", "rounds 2")
        self.check(("out",), "out stuck a paper 3 chain out a b", "rounds 3")

    def test_several_in_their_order(self):
        self.check(("two", "x", "bad", "two", "b", "q"), 'two value (("\\"" ()) ("\\"" ())) paper 2', 'x value ("\\"" ()) paper 0',
                   "bad fault told paper 1 chain bad", 'two value (("\\"" ()) ("\\"" ())) paper 2', "b stuck a paper 2 chain b a", "q lack paper 0",
                   "rounds 3")

    def test_rounds_of_all_together(self):
        self.check(("one", "two"), 'one value ("\\"" ()) paper 1', 'two value (("\\"" ()) ("\\"" ())) paper 2', "rounds 2")

    def test_many(self):
        chance = random.Random(103)
        for step in range(100):
            names, project = chance.choice((some_project, layered_project))(chance)
            picked = tuple(chance.choices(names + ["q"], k=chance.randrange(6)))
            lines = report(project, picked)
            self.assertEqual(lines[-1], f"rounds {len(rounds_of(project, picked))}")
            self.assertEqual(len(lines), len(picked) + 1)
            for name, line in zip(picked, lines):
                answer = answer_of(project, name)
                told = f"value {tree_text(answer[1])}" if answer[0] == "value" else " ".join(answer)
                chain = "".join(f" {met}" for met in chain_of(project, name)[0])
                self.assertEqual(line, f"{name} {told} paper {len(paper_of(project, name))}" + (f" chain{chain}" if chain else ""))


if __name__ == "__main__":
    unittest.main()
