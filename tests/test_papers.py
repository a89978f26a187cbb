"""Promises 8.1 and 8.2: papers, and papers put together."""

import random
import unittest

from askwright.errors import BadName
from askwright.papers import paper_of, put_together
from askwright.plain import full_run, met_by
from helpers import NO_NAMES, asks_for, passes_on, project_of, some_project

FAULT = ("rule", ("fault",))
SAID = ("said", "v")


class Papers(unittest.TestCase):
    RULE = ("text b x", "ask a b", "say a")
    PROJECT = project_of(x=("leaf", "v"), r=("leaf", RULE), a=("rule", RULE), made=("made", "r"), bad=FAULT,
                         stuck=asks_for("a", "bad"), no=("rule", "no"), lacks=passes_on("q"), ring=passes_on("gnir"),
                         gnir=passes_on("ring"), out=asks_for("a", "ring"), made2=("made", "q"), made3=("made", "made3"))

    def check_paper(self, name, *steps):
        self.assertEqual(paper_of(self.PROJECT, name), steps)

    def test_of_a_leaf_or_a_lack(self):
        self.check_paper("x")
        self.check_paper("r")
        self.check_paper("q")

    def test_of_a_rule(self):
        self.check_paper("a", ("a", ((("thing", "x"), "v"),), SAID))
        self.check_paper("no", ("no", (), ("fault", "rule")))

    def test_of_a_made_thing(self):
        self.check_paper("made", ("made", ((("rule", "r"), self.RULE), (("thing", "x"), "v")), SAID))
        self.check_paper("made2", ("made2", ((("rule", "q"), None),), ("fault", "lack")))
        self.check_paper("made3", ("made3", (), ("stuck", "made3")))

    def test_of_a_fault(self):
        self.check_paper("bad", ("bad", (), ("fault", "told")))
        self.check_paper("lacks", ("lacks", ((("thing", "q"), None),), ("fault", "lack")))

    def test_of_what_is_stuck(self):
        self.check_paper("stuck", ("a", ((("thing", "x"), "v"),), SAID), ("bad", (), ("fault", "told")),
                         ("stuck", ((("thing", "a"), "v"),), ("stuck", "bad")))

    def test_of_rings(self):
        self.check_paper("ring", ("gnir", (), ("stuck", "ring")), ("ring", (), ("stuck", "gnir")))
        self.check_paper("gnir", ("ring", (), ("stuck", "gnir")), ("gnir", (), ("stuck", "ring")))
        self.check_paper("out", ("a", ((("thing", "x"), "v"),), SAID), ("gnir", (), ("stuck", "ring")),
                         ("ring", (), ("stuck", "gnir")), ("out", ((("thing", "a"), "v"),), ("stuck", "ring")))

    def test_bad_names(self):
        for name in NO_NAMES:
            self.assertRaises(BadName, paper_of, self.PROJECT, name)

    def test_many(self):
        chance = random.Random(23)
        for step in range(100):
            names, project = some_project(chance)
            for name in names:
                self.assertEqual(paper_of(project, name), tuple((met,) + full_run(project, met)
                                                                for met in met_by(project, name)))


class PutTogether(unittest.TestCase):
    A = ("a", (), SAID)
    B = ("b", ((("thing", "a"), "v"),), ("fault", "told"))
    OTHER_A = ("a", (), ("stuck", "b"))
    NO_NAME = ("No Name!", ((("any", "Kind"), None),), ("word", ()))

    def test_apart(self):
        self.assertEqual(put_together((), ()), ())
        self.assertEqual(put_together((self.A,), ()), (self.A,))
        self.assertEqual(put_together((), (self.B, self.A)), (self.B, self.A))
        self.assertEqual(put_together((self.A,), (self.B,)), (self.A, self.B))

    def test_of_each_name_the_first(self):
        self.assertEqual(put_together((self.A,), (self.A, self.B)), (self.A, self.B))
        self.assertEqual(put_together((self.B, self.A), (self.OTHER_A, self.NO_NAME)), (self.B, self.A, self.NO_NAME))
        self.assertEqual(put_together((self.OTHER_A,), (self.A,)), (self.OTHER_A,))

    def test_a_name_twice_in_one_of_them(self):
        self.assertEqual(put_together((self.A, self.B, self.OTHER_A), ()), (self.A, self.B))
        self.assertEqual(put_together((self.NO_NAME,), (self.OTHER_A, self.A, self.NO_NAME)), (self.NO_NAME, self.OTHER_A))
        self.assertEqual(put_together((self.A, self.A), (self.A, self.A)), (self.A,))


if __name__ == "__main__":
    unittest.main()
