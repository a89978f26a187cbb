"""Promises 7.1 to 7.4: houses, what they answer, do and keep."""

import random
import unittest

from askwright.errors import BadName
from askwright.house import House, runs_done, way_of
from askwright.keeps import Keep
from askwright.papers import paper_of
from askwright.plain import answer_of, met_by
from askwright.project import with_source, without
from helpers import (NO_NAMES, asks_for, key_and_run, passes_on, plain_deed, project_of, run_of, some_change,
                     some_project, ways_in)

FAULT = ("rule", ("fault",))
SAYS = ("rule", ("say a",))


def house_of(**sources):
    return House(project_of(**sources), Keep(), 7)


def fresh_deeds(house, *names):
    """The deeds that answering these names brings."""
    ahead = len(house.deeds())
    house.answers(names)
    return house.deeds()[ahead:]


def moved(house, name, source):
    house.set_project(with_source(house.project(), name, source))


class FirstAnswers(unittest.TestCase):
    def test_leaves_and_lacks_bring_no_deed(self):
        house = house_of(x=("leaf", ("v", ())))
        self.assertEqual(house.answer("x"), ("value", ("v", ())))
        self.assertEqual(house.answer("q"), ("lack",))
        self.assertEqual(house.deeds(), ())
        self.assertEqual(house.keep().many(), 0)

    def test_a_rule(self):
        house = house_of(main=asks_for("x", "q"), x=("leaf", "v"), other=asks_for("x"))
        self.assertEqual(house.answer("main"), ("fault", "lack"))
        self.assertEqual(house.answer("other"), ("value", ("v",)))
        self.assertEqual(house.deeds(), (("done", "main", 0, 2), ("done", "other", 0, 1)))
        self.assertEqual(ways_in(house.keep()), (
            (asks_for("x")[1], "other", run_of(("said", ("v",)), (("thing", "x"), "v")), (7,)),
            (asks_for("x", "q")[1], "main", run_of(("fault", "lack"), (("thing", "x"), "v"), (("thing", "q"), None)), (7,))))

    def test_in_the_order_in_which_they_are_left(self):
        house = house_of(a=asks_for("b", "c", "x"), b=asks_for("d"), c=asks_for("d", "b"), d=SAYS, x=("leaf", ""), e=SAYS)
        self.assertEqual(fresh_deeds(house, "a"), (("done", "d", 0, 0), ("done", "b", 0, 1), ("done", "c", 0, 2),
                                                   ("done", "a", 0, 3)))
        self.assertEqual(fresh_deeds(house, "e", "a"), (("done", "e", 0, 0),))

    def test_a_made_thing(self):
        rule = ("text b x", "ask a b", "say a")
        house = house_of(main=("made", "r"), r=("leaf", rule), x=("leaf", "v"))
        self.assertEqual(house.answer("main"), ("value", "v"))
        self.assertEqual(house.deeds(), (("done", "main", 0, 1),))
        self.assertEqual(ways_in(house.keep()), ((rule, "main", run_of(("said", "v"), (("thing", "x"), "v")), (7,)),))

    def test_a_made_thing_by_a_rule_that_is_made(self):
        house = house_of(main=("made", "r"), r=("rule", ("row a", "text b self c", "put a b", "text b say c", "put a b",
                                                         "say a")))
        self.assertEqual(house.answer("main"), ("value", "main"))
        self.assertEqual(house.deeds(), (("done", "r", 0, 0), ("done", "main", 0, 0)))

    def test_what_has_no_key(self):
        house = house_of(norule=("rule", ("say",)), text=("rule", "say a"), lacking=("made", "q"), made=("made", "leaf"),
                         leaf=("leaf", "x"), self=("made", "self"), stuck=("made", "bad"), bad=FAULT)
        for name, answer in (("norule", ("fault", "rule")), ("text", ("fault", "rule")), ("lacking", ("fault", "lack")),
                             ("made", ("fault", "rule")), ("self", ("stuck", "self"))):
            self.assertEqual(house.answer(name), answer)
            self.assertEqual(house.deeds()[-1], ("none", name))
        self.assertEqual(house.keep().many(), 0)
        self.assertEqual(house.answer("stuck"), ("stuck", "bad"))
        self.assertEqual(house.deeds()[-2:], (("done", "bad", 0, 0), ("none", "stuck")))

    def test_stuck_in_a_run(self):
        house = house_of(main=asks_for("x", "x", "bad", "x"), x=("leaf", "v"), bad=FAULT)
        self.assertEqual(house.answer("main"), ("stuck", "bad"))
        self.assertEqual(house.deeds(), (("done", "bad", 0, 0), ("left", "main", 0, 2)))
        self.assertEqual(ways_in(house.keep()), ((("fault",), "bad", run_of(("fault", "told")), (7,)),))

    def test_rings(self):
        house = house_of(a=passes_on("a"), b=asks_for("x", "c"), c=passes_on("b"), x=("leaf", ""), d=("made", "e"),
                         e=("made", "d"), out=passes_on("c"))
        self.assertEqual(house.answer("a"), ("stuck", "a"))
        self.assertEqual(house.answer("out"), ("stuck", "c"))
        self.assertEqual(house.answers(("b", "c")), (("stuck", "c"), ("stuck", "b")))
        self.assertEqual(house.answer("d"), ("stuck", "e"))
        self.assertEqual(house.deeds(), (("left", "a", 0, 0), ("left", "b", 0, 1), ("left", "c", 0, 0),
                                         ("left", "out", 0, 0), ("none", "e"), ("none", "d")))
        self.assertEqual(house.keep().many(), 0)


class Walks(unittest.TestCase):
    # Asks for x; for what x names; and has y where that is a row.
    RULE = ("text b x", "ask b b", "ask a b", "rowed a 6", "say a", "text b y", "has c b", "say c")

    def setUp(self):
        self.house = house_of(main=("rule", self.RULE), x=("leaf", "p"), p=("leaf", "v"), r=("leaf", ("row",)))
        self.house.answer("main")

    def walked(self, *changes):
        for name, source in changes:
            moved(self.house, name, source)
        deeds = fresh_deeds(self.house, "main")
        self.assertEqual(self.house.answer("main"), answer_of(self.house.project(), "main"))
        return deeds

    def test_to_an_end(self):
        self.assertEqual(self.house.deeds(), (("done", "main", 0, 2),))
        self.assertEqual(self.walked(("other", ("leaf", "v"))), (("used", "main", 2),))

    def test_that_falls_at_the_last_ask(self):
        self.assertEqual(self.walked(("p", ("leaf", "w"))), (("done", "main", 2, 2),))
        self.assertEqual(self.walked(("p", ("leaf", "v"))), (("used", "main", 2),))
        self.assertEqual(self.house.keep().many(), 2)

    def test_that_falls_in_the_middle_and_goes_on(self):
        self.assertEqual(self.walked(("x", ("leaf", "r"))), (("done", "main", 1, 3),))
        self.assertEqual(self.walked(("y", ("leaf", ""))), (("done", "main", 3, 3),))
        self.assertEqual(self.walked(("p", ("leaf", "z"))), (("used", "main", 3),))

    def test_that_falls_by_a_lack(self):
        self.assertEqual(self.walked(("x", ("leaf", "lacking"))), (("done", "main", 1, 2),))
        self.house.set_project(without(self.house.project(), "x"))
        self.assertEqual(fresh_deeds(self.house, "main"), (("done", "main", 1, 1),))
        self.house.set_project(self.house.project())
        self.assertEqual(fresh_deeds(self.house, "main"), (("used", "main", 1),))

    def test_that_falls_at_the_beginning(self):
        self.assertEqual(self.walked(("main", asks_for("x"))), (("done", "main", 0, 1),))
        moved(self.house, "twin", ("rule", self.RULE))
        self.assertEqual(fresh_deeds(self.house, "twin"), (("done", "twin", 0, 2),))
        self.assertEqual(len(self.house.keep().kept_keys()), 3)

    def test_an_end_without_an_ask(self):
        moved(self.house, "main", SAYS)
        self.assertEqual(fresh_deeds(self.house, "main"), (("done", "main", 0, 0),))
        self.house.set_project(self.house.project())
        self.assertEqual(fresh_deeds(self.house, "main"), (("used", "main", 0),))

    def test_stuck_in_the_walk(self):
        self.assertEqual(self.walked(("p", FAULT)), (("done", "p", 0, 0), ("stuck", "main", 1)))
        self.assertEqual(self.walked(("x", FAULT)), (("done", "x", 0, 0), ("stuck", "main", 0)))
        self.assertEqual(self.walked(("x", passes_on("main"))), (("left", "x", 0, 0), ("stuck", "main", 0)))
        self.assertEqual(self.walked(("x", ("leaf", "p")), ("p", passes_on("p"))),
                         (("left", "p", 0, 0), ("stuck", "main", 1)))
        self.assertEqual(self.house.answer("main"), ("stuck", "p"))

    def test_stuck_in_a_run_begun_with_answers(self):
        self.assertEqual(self.walked(("x", ("leaf", "main"))), (("left", "main", 1, 1),))
        self.assertEqual(self.walked(("x", ("leaf", "main"))), (("left", "main", 1, 1),))
        self.assertEqual(self.walked(("x", ("leaf", "bad")), ("bad", FAULT)), (("done", "bad", 0, 0), ("left", "main", 1, 1)))

    def test_a_made_thing_walks_likewise(self):
        house = house_of(m=("made", "r"), r=passes_on("s"), s=("leaf", self.RULE), x=("leaf", "p"), p=("leaf", "v"))
        self.assertEqual(fresh_deeds(house, "m"), (("done", "r", 0, 1), ("done", "m", 0, 2)))
        moved(house, "p", ("leaf", "w"))
        self.assertEqual(fresh_deeds(house, "m"), (("used", "r", 1), ("done", "m", 2, 2)))
        moved(house, "s", ("leaf", ("fault",)))
        self.assertEqual(fresh_deeds(house, "m"), (("done", "r", 1, 1), ("done", "m", 0, 0)))
        moved(house, "s", FAULT)
        self.assertEqual(fresh_deeds(house, "m"), (("done", "s", 0, 0), ("stuck", "r", 0), ("none", "m")))

    def test_a_lie_off_the_walk_turns_nothing(self):
        keep = self.house.keep()
        keep.put(self.RULE, "main", run_of(("said", "lie"), (("thing", "x"), "p"), (("thing", "p"), "w")), (3,))
        self.house.set_keep(keep)
        self.assertEqual(self.walked(("y", ("leaf", ""))), (("used", "main", 2),))
        self.assertEqual(self.walked(("p", ("leaf", "z"))), (("done", "main", 2, 2),))

    def test_a_lie_on_the_walk_leaves_the_house_in_order(self):
        keep = Keep()
        keep.put(self.RULE, "main", run_of(("said", "lie"), (("thing", "x"), "p"), (("has", "p"), "no")), (3,))
        house = House(self.house.project(), keep, 7)
        house.answer("main")
        self.assertEqual(house.answer("p"), ("value", "v"))
        moved(house, "p", SAYS)
        self.assertEqual(house.answer("p"), ("value", ""))


class KeptAnswers(unittest.TestCase):
    def setUp(self):
        self.house = house_of(main=asks_for("x", "sub"), x=("leaf", "v"), sub=passes_on("x"), bad=FAULT, no=("rule", "no"))
        self.house.answer("main")
        self.deeds = (("done", "sub", 0, 1), ("done", "main", 0, 2))

    def test_no_second_deed(self):
        self.assertEqual(self.house.answers(("main", "sub", "main")), (("value", ("v", "v")), ("value", "v"),
                                                                       ("value", ("v", "v"))))
        self.house.answers(("bad", "no", "bad", "no"))
        self.assertEqual(self.house.deeds(), self.deeds + (("done", "bad", 0, 0), ("none", "no")))

    def test_the_same_project_again(self):
        self.assertIsNone(self.house.set_project(self.house.project()))
        self.assertFalse(self.house.known("main"))
        self.assertEqual(self.house.keep().many(), 2)
        self.assertEqual(fresh_deeds(self.house, "main"), (("used", "sub", 1), ("used", "main", 2)))

    def test_another_project_and_back(self):
        first = self.house.project()
        moved(self.house, "x", ("leaf", "w"))
        self.assertEqual(self.house.answer("main"), ("value", ("w", "w")))
        self.assertEqual(self.house.deeds()[2:], (("done", "sub", 1, 1), ("done", "main", 1, 2)))
        self.house.set_project(first)
        self.assertEqual(fresh_deeds(self.house, "main"), (("used", "sub", 1), ("used", "main", 2)))
        self.assertEqual(self.house.answer("main"), ("value", ("v", "v")))

    def test_another_keep(self):
        self.assertIsNone(self.house.set_keep(Keep()))
        self.assertTrue(self.house.known("main"))
        self.assertEqual(fresh_deeds(self.house, "main"), ())
        self.assertEqual(self.house.keep().many(), 0)
        self.house.set_project(self.house.project())
        self.assertEqual(fresh_deeds(self.house, "main"), self.deeds)

    def test_keeps_are_copies(self):
        keep = self.house.keep()
        keep.take_out(*keep.kept_keys()[0], keep.tree_of(*keep.kept_keys()[0]).ways()[0][0])
        self.assertEqual(self.house.keep().many(), 2)
        given = Keep()
        house = House(self.house.project(), given, 1)
        other = House(self.house.project(), Keep(), 1)
        other.set_keep(given)
        for one in (house, other):
            one.answer("main")
            self.assertEqual(one.keep().many(), 2)
            self.assertEqual(given.many(), 0)
        given.put(("fault",), "bad", run_of(("fault", "told")), ())
        self.assertEqual(house.keep().many(), 2)
        self.assertEqual(fresh_deeds(other, "bad"), (("done", "bad", 0, 0),))

    def test_givers(self):
        keep = Keep()
        way = way_of(self.house.project(), "sub")
        keep.put(*way, (2, 50))
        house = House(self.house.project(), keep, 4)
        house.answer("main")
        self.assertEqual([(own, givers) for rule, own, run, givers in ways_in(house.keep())], [("main", (4,)), ("sub", (2, 50))])
        for number in (0, 99):
            house = House(self.house.project(), Keep(), number)
            house.answer("sub")
            self.assertEqual(ways_in(house.keep())[0][3], (number,))

    def test_project(self):
        project = project_of(x=("leaf", "other"))
        self.assertIsNone(self.house.set_project(project))
        self.assertEqual(self.house.project().sources(), (("x", ("leaf", "other")),))
        self.assertEqual(self.house.answers(("x", "main")), (("value", "other"), ("lack",)))

    def test_known_of_each_kind_of_name(self):
        house = house_of(main=asks_for("x", "q", "sub"), x=("leaf", "v"), sub=SAYS, made=("made", "r"), r=("leaf", ("say a",)),
                         ring=passes_on("gnir"), gnir=passes_on("ring"), bad=FAULT, asks=("rule", ("text b bad", "has a b", "say a")))
        names = ("main", "x", "q", "sub", "made", "r", "ring", "gnir", "bad", "asks", "lacking")

        def check_known(*known):
            self.assertEqual([name for name in names if house.known(name)], [name for name in names if name in known])

        check_known()
        house.answer("main")
        check_known("main", "x", "q")
        house.answers(("made", "ring", "asks"))
        check_known("main", "x", "q", "made", "r", "ring", "gnir", "asks")
        house.answers(("lacking", "bad"))
        check_known("main", "x", "q", "made", "r", "ring", "gnir", "asks", "lacking", "bad")
        house.set_keep(Keep())
        self.assertTrue(house.known("lacking"))
        house.set_project(house.project())
        check_known()

    def test_bad_names(self):
        for name in NO_NAMES:
            self.assertRaises(BadName, self.house.answer, name)
            self.assertRaises(BadName, self.house.answers, ("bad", name))
            self.assertRaises(BadName, self.house.answers, (name, "bad"))
        self.assertEqual(self.house.deeds(), self.deeds)
        self.assertFalse(self.house.known("bad"))
        self.assertEqual(self.house.answers(()), ())


class RunsAndWays(unittest.TestCase):
    def test_runs_done(self):
        self.assertEqual(runs_done(()), 0)
        self.assertEqual(runs_done((("used", "done", 1), ("left", "done", 0, 1), ("none", "done"), ("stuck", "done", 0))), 0)
        self.assertEqual(runs_done((("done", "a", 0, 1), ("used", "b", 1), ("done", "a", 1, 2))), 2)
        self.assertEqual(runs_done((("tried", "done", run_of(("said", "")), None), ("done", "a", 0, 0))), 1)

    def test_way_of(self):
        rule = ("text b x", "ask a b", "say a")
        project = project_of(rule=("rule", rule), x=("leaf", "v"), bad=FAULT, lacks=passes_on("q"), stuck=passes_on("bad"),
                             made=("made", "r"), r=("leaf", rule), ring=passes_on("ring"), no=("rule", "no"),
                             made2=("made", "q"), made3=("made", "x"), made4=("made", "bad"), made5=("made", "f"),
                             f=("leaf", ("fault",)))
        run = run_of(("said", "v"), (("thing", "x"), "v"))
        self.assertEqual(way_of(project, "rule"), (rule, "rule", run))
        self.assertEqual(way_of(project, "made"), (rule, "made", run))
        self.assertEqual(way_of(project, "bad"), (("fault",), "bad", run_of(("fault", "told"))))
        self.assertEqual(way_of(project, "made5"), (("fault",), "made5", run_of(("fault", "told"))))
        self.assertEqual(way_of(project, "lacks"), (passes_on("q")[1], "lacks", run_of(("fault", "lack"), (("thing", "q"), None))))
        for name in ("stuck", "ring", "x", "q", "no", "made2", "made3", "made4", "r"):
            self.assertIsNone(way_of(project, name), name)


class Histories(unittest.TestCase):
    """The answers are the plain ones, and each deed is what the full run and the keep tell."""

    def test_many(self):
        chance = random.Random(17)
        words = {}
        for step in range(150):
            names, project = some_project(chance)
            house = House(project, Keep(), step % 100)
            met_papers = {}
            projects = [project]
            for turn in range(10):
                self.check_turn(chance, house, names, met_papers)
                self.next_project(chance, house, names, projects)
            for deed in house.deeds():
                words[deed[0]] = words.get(deed[0], 0) + 1
        for word in ("used", "done", "left", "stuck", "none"):
            self.assertGreater(words[word], 50, word)

    def next_project(self, chance, house, names, projects):
        if chance.random() < 0.3:
            house.set_project(chance.choice(projects))
        else:
            house.set_project(some_change(chance, house.project(), names))
            projects.append(house.project())

    def check_turn(self, chance, house, names, met_papers):
        project = house.project()
        for name in chance.sample(names, chance.randrange(1, len(names) + 1)):
            keep = house.keep()
            fresh = [met for met in met_by(project, name) if not house.known(met)]
            if house.known(name):
                fresh = []
            expected = tuple(plain_deed(project, met, keep) for met in fresh)
            self.check_no_machine_again(project, fresh, expected, met_papers)
            self.assertEqual(fresh_deeds(house, name), expected)
            self.assertEqual(house.answer(name), answer_of(project, name))
            self.check_kept(project, house, keep, expected)

    def check_no_machine_again(self, project, fresh, expected, met_papers):
        for met, deed in zip(fresh, expected):
            # Another rule of a like run is another key, so the sources belong to what must be the same.
            paper = paper_of(project, met)
            same = (paper, tuple(project.source_of(name) for name, asks, end in paper))
            if same in met_papers:
                self.assertIn(deed[0], ("used", "none"))
            if paper[-1][2][0] != "stuck":
                met_papers[same] = True

    def check_kept(self, project, house, keep, deeds):
        for deed in deeds:
            if deed[0] == "done":
                key, run = key_and_run(project, deed[1])
                keep.put(*key, run, (house.number,))
        self.assertEqual(ways_in(house.keep()), ways_in(keep))


if __name__ == "__main__":
    unittest.main()
