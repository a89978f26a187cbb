"""Promise 12.4: the ways that answers use, and the least keep."""

import random
import unittest

from askwright.errors import BadName
from askwright.house import House, runs_done, way_of
from askwright.keeps import Keep
from askwright.least import least_keep, ways_used
from askwright.papers import paper_of
from askwright.project import with_source
from helpers import (NO_NAMES, asks_for, layered_change, layered_project, passes_on, project_of, run_of, some_project,
                     ways_in)

FAULT = ("rule", ("fault",))
SAYS = ("rule", ("say a",))
RULE = ("text b x", "ask a b", "say a")
PROJECT = project_of(
    x=("leaf", "v"), s=SAYS, one=passes_on("s"), both=asks_for("one", "s"), bad=FAULT, stuck=asks_for("s", "bad"),
    r=("leaf", RULE), m=("made", "r"), no=("rule", "no"), mq=("made", "q"), mm=("made", "one"), ring=asks_for("s", "ring"))
S_WAY = (SAYS[1], "s", run_of(("said", "")))
ONE_WAY = (passes_on("s")[1], "one", run_of(("said", ""), (("thing", "s"), "")))
BAD_WAY = (FAULT[1], "bad", run_of(("fault", "told")))


def done_in(states, keep):
    """How many runs are done in these, each from this keep on."""
    done = 0
    for project, names in states:
        house = House(project, keep, 0)
        house.answers(names)
        done += runs_done(house.deeds())
    return done


class WaysUsed(unittest.TestCase):
    def check(self, names, *ways):
        self.assertEqual(ways_used(PROJECT, names), ways)

    def test_of_nothing(self):
        self.check(())
        self.check(("x",))
        self.check(("q", "r", "x"))

    def test_of_what_has_no_key(self):
        self.check(("no",))
        self.check(("mq", "no"))
        self.check(("mm",), ONE_WAY, S_WAY)

    def test_of_one_name(self):
        self.check(("s",), S_WAY)
        self.check(("one",), ONE_WAY, S_WAY)
        self.check(("bad",), BAD_WAY)
        self.check(("m",), (RULE, "m", run_of(("said", "v"), (("thing", "x"), "v"))))

    def test_of_what_is_stuck(self):
        self.check(("stuck",), BAD_WAY, S_WAY)
        self.check(("ring",), S_WAY)

    def test_of_several(self):
        both = (asks_for("one", "s")[1], "both", run_of(("said", ("", "")), (("thing", "one"), ""), (("thing", "s"), "")))
        self.check(("s", "both"), both, ONE_WAY, S_WAY)
        self.check(("both", "s", "both"), both, ONE_WAY, S_WAY)
        self.check(("stuck", "one"), BAD_WAY, ONE_WAY, S_WAY)

    def test_bad_names(self):
        for name in NO_NAMES:
            for names in ((name,), ("s", name), (name, "s")):
                for asked, arguments in ((ways_used, (PROJECT, names)), (least_keep, (((PROJECT, ("s",)), (PROJECT, names)),))):
                    with self.assertRaises(BadName) as caught:
                        asked(*arguments)
                    self.assertIs(caught.exception.__class__, BadName)


class LeastKeep(unittest.TestCase):
    def test_of_nothing(self):
        self.assertEqual(ways_in(least_keep(())), ())
        self.assertEqual(ways_in(least_keep(((PROJECT, ()), (PROJECT, ("x", "q", "no"))))), ())

    def test_of_two_projects(self):
        other = with_source(PROJECT, "s", ("leaf", "t"))
        keep = least_keep(((PROJECT, ("one",)), (other, ("one", "one")), (PROJECT, ("s",))))
        turned = (ONE_WAY[0], "one", run_of(("said", "t"), (("thing", "s"), "t")))
        self.assertEqual(ways_in(keep), (S_WAY + ((),), ONE_WAY + ((),), turned + ((),)))

    def test_a_run_that_is_stuck_is_left_again(self):
        keep = least_keep(((PROJECT, ("stuck",)),))
        house = House(PROJECT, keep, 0)
        house.answer("stuck")
        self.assertEqual(house.deeds(), (("used", "s", 0), ("used", "bad", 0), ("left", "stuck", 0, 1)))

    def test_many(self):
        chance = random.Random(73)
        ways = 0
        for step in range(150):
            names, project = chance.choice((some_project, layered_project, layered_project))(chance)
            states = []
            for turn in range(chance.randrange(1, 4)):
                states.append((project, tuple(chance.choices(names, k=chance.randrange(1, 4)))))
                project = layered_change(chance, project, names)
            keep = least_keep(tuple(states))
            self.check_least(states, keep)
            ways += keep.many()
        self.assertGreater(ways, 150)

    def check_least(self, states, keep):
        told = ways_in(keep)
        self.assertEqual({way[:3] for way in told}, {way for state in states for way in self.expected(*state)})
        self.assertEqual({way[3] for way in told} - {()}, set())
        self.assertEqual(done_in(states, keep), 0)
        for rule, own, run, givers in told:
            fewer = keep.copy()
            fewer.take_out(rule, own, run)
            self.assertGreater(done_in(states, fewer), 0)
        self.check_within(states, told)

    def check_within(self, states, told):
        house = House(states[0][0], Keep(), 4)
        for project, names in states:
            house.set_project(project)
            house.answers(names)
        kept = {way[:3] for way in ways_in(house.keep())}
        for way in told:
            self.assertIn(way[:3], kept)

    def expected(self, project, names):
        met = sorted({step[0] for name in names for step in paper_of(project, name)})
        ways = tuple(way for way in (way_of(project, name) for name in met) if way is not None)
        self.assertEqual(ways_used(project, names), ways)
        return ways


if __name__ == "__main__":
    unittest.main()
