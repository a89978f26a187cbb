"""Promises 12.1 to 12.3: what an answer hangs on, and why a name stands unlike in two projects."""

import random
import unittest

from askwright.errors import BadName
from askwright.feet import foot_of, reason, reason_holds, stands
from askwright.papers import paper_of
from askwright.plain import answer_of, full_run
from askwright.project import alike_on, with_source, without
from helpers import (NO_NAMES, asks_for, has_rule, layered_change, layered_project, passes_on, project_of, some_change,
                     some_project)

FAULT = ("rule", ("fault",))
SAYS = ("rule", ("say a",))
RULE = ("text b x", "ask a b", "say a")
# Asks for x, then of has and names several times, some twice.
LOOKS = ("text b x", "ask a b", "text b z", "has c b", "text b s", "names c b", "has c b", "text b z", "has c b",
         "text b ", "names c b", "say a")
PROJECT = project_of(
    x=("leaf", "v"), s=SAYS, one=passes_on("s"), wide=asks_for("x", "one", "q", "s"), looks=("rule", LOOKS), bad=FAULT,
    r=("leaf", RULE), m=("made", "r"), mm=("made", "one"), mq=("made", "q"), stuck=asks_for("x", "bad", "s"),
    ring=asks_for("x", "gnir"), gnir=passes_on("ring"), out=asks_for("looks", "ring"), ms=("made", "ms"), no=("rule", "no"))


def bad_name_alone(case, asked, *arguments):
    with case.assertRaises(BadName) as caught:
        asked(*arguments)
    case.assertIs(caught.exception.__class__, BadName)


class Feet(unittest.TestCase):
    def test_of_each_kind(self):
        asks = (("has", "s"), ("has", "z"), ("names", ""), ("names", "s"))
        for name, names, looks in (("x", ("x",), ()), ("q", ("q",), ()), ("s", ("s",), ()), ("one", ("one", "s"), ()),
                                   ("no", ("no",), ()), ("bad", ("bad",), ()), ("m", ("m", "r", "x"), ()),
                                   ("wide", ("one", "q", "s", "wide", "x"), ()), ("looks", ("looks", "x"), asks),
                                   ("mm", ("mm", "one", "s"), ()), ("mq", ("mq", "q"), ()), ("ms", ("ms",), ()),
                                   ("stuck", ("bad", "stuck", "x"), ()), ("ring", ("gnir", "ring", "x"), ()),
                                   ("out", ("gnir", "looks", "out", "ring", "x"), asks)):
            self.assertEqual(foot_of(PROJECT, name), (names, looks), name)

    def test_bad_names(self):
        for name in NO_NAMES:
            bad_name_alone(self, foot_of, PROJECT, name)

    def test_the_same_paper_where_alike_on_it(self):
        chance = random.Random(61)
        alike = 0
        for step in range(150):
            names, project = some_project(chance)
            other = some_change(chance, some_change(chance, project, names), names)
            for name in names:
                foot = foot_of(project, name)
                self.assertEqual(foot, foot_by_paper(project, name))
                if alike_on(project, other, *foot):
                    self.assertEqual(paper_of(other, name), paper_of(project, name))
                    self.assertEqual(foot_of(other, name), foot)
                    alike += project.sources() != other.sources()
        self.assertGreater(alike, 200)


def foot_by_paper(project, name):
    paper = paper_of(project, name)
    asks = {ask for step, answered, end in paper for ask, answer in answered}
    names = {name} | {step for step, answered, end in paper} | {text for kind, text in asks if kind in ("thing", "rule")}
    looks = sorted(ask for ask in asks if ask[0] == "has") + sorted(ask for ask in asks if ask[0] == "names")
    return (tuple(sorted(names)), tuple(looks))


class Standing(unittest.TestCase):
    def test_of_each_kind(self):
        for name, told in (("x", ("value", "v")), ("q", ("lack",)), ("one", ("value", "")), ("bad", ("none",)), ("no", ("none",)),
                           ("m", ("value", "v")), ("mm", ("none",)), ("mq", ("none",)), ("stuck", ("none",)), ("ring", ("none",)),
                           ("out", ("none",)), ("looks", ("value", "v")), ("r", ("value", RULE))):
            self.assertEqual(stands(PROJECT, name), told)

    def test_bad_names(self):
        for name in NO_NAMES:
            bad_name_alone(self, stands, PROJECT, name)


class Reasons(unittest.TestCase):
    def check(self, project, other, name, told):
        self.assertEqual(reason(project, other, name), told)
        self.assertEqual(reason(other, project, name), told)
        if told is not None:
            self.assertIs(reason_holds(project, other, name, told), True)
            self.assertIs(reason_holds(other, project, name, told), True)

    def test_where_it_stands_alike(self):
        self.check(PROJECT, PROJECT, "one", None)
        self.check(PROJECT, with_source(PROJECT, "y", SAYS), "one", None)
        # Another source, the same value; another fault; stuck and a fault; stuck at another one.
        self.check(PROJECT, with_source(PROJECT, "s", ("leaf", "")), "one", None)
        self.check(PROJECT, with_source(PROJECT, "bad", ("rule", "no")), "bad", None)
        self.check(PROJECT, with_source(PROJECT, "bad", passes_on("bad")), "bad", None)
        self.check(PROJECT, with_source(PROJECT, "stuck", passes_on("ring")), "stuck", None)
        self.check(PROJECT, PROJECT, "q", None)

    def test_the_source_of_the_name_itself(self):
        for name, source in (("x", ("leaf", "w")), ("s", FAULT), ("q", SAYS), ("bad", ("leaf", "")), ("m", ("made", "x"))):
            self.check(PROJECT, with_source(PROJECT, name, source), name, ((name,), (), ("source",)))
        self.check(PROJECT, without(PROJECT, "one"), "one", (("one",), (), ("source",)))

    def test_the_source_goes_ahead_of_what_else_is_unlike(self):
        other = with_source(with_source(PROJECT, "s", ("leaf", "t")), "one", asks_for("s"))
        self.check(PROJECT, other, "one", (("one",), (), ("source",)))

    def test_an_ask(self):
        # What begins with s is asked for ahead of what there is at all.
        self.check(project_of(a=("rule", ("text b s", "names c b", "text b ", "names d b", "say c")), s=SAYS),
                   project_of(a=("rule", ("text b s", "names c b", "text b ", "names d b", "say c")), t=SAYS),
                   "a", (("a",), (), ("ask", ("names", "s"))))
        rule = ("rule", ("text b x", "has a b", "say a"))
        self.check(project_of(a=rule), project_of(a=rule, x=SAYS), "a", (("a",), (), ("ask", ("has", "x"))))
        self.check(project_of(a=rule, b=asks_for("a")), project_of(a=rule, b=asks_for("a"), x=SAYS), "b",
                   (("b", "a"), (0,), ("ask", ("has", "x"))))

    def test_ways_over_several_names(self):
        other = with_source(PROJECT, "s", ("leaf", "t"))
        self.check(PROJECT, other, "one", (("one", "s"), (0,), ("source",)))
        self.check(PROJECT, with_source(PROJECT, "q", ("leaf", "")), "wide", (("wide", "q"), (2,), ("source",)))
        deep = with_source(with_source(PROJECT, "q", SAYS), "top", asks_for("x", "x", "wide"))
        self.check(deep, with_source(deep, "s", ("leaf", "t")), "top", (("top", "wide", "one", "s"), (2, 1, 0), ("source",)))

    def test_the_first_place_alone(self):
        other = with_source(with_source(PROJECT, "s", ("leaf", "t")), "x", ("leaf", "w"))
        project = project_of(a=asks_for("x", "s", "x"), x=("leaf", "v"), s=SAYS)
        other = project_of(a=asks_for("x", "s", "x"), x=("leaf", "w"), s=("leaf", "t"))
        self.check(project, other, "a", (("a", "x"), (0,), ("source",)))

    def test_made_things(self):
        self.check(PROJECT, with_source(PROJECT, "x", ("leaf", "w")), "m", (("m", "x"), (1,), ("source",)))
        self.check(PROJECT, with_source(PROJECT, "r", ("leaf", SAYS[1])), "m", (("m", "r"), (0,), ("source",)))
        self.check(PROJECT, without(PROJECT, "r"), "m", (("m", "r"), (0,), ("source",)))
        self.check(PROJECT, with_source(PROJECT, "r", FAULT), "m", (("m", "r"), (0,), ("source",)))
        self.check(PROJECT, with_source(PROJECT, "r", ("made", "m")), "m", (("m", "r"), (0,), ("source",)))

    def test_answered_in_one_and_stuck_in_the_other_one(self):
        self.check(PROJECT, with_source(PROJECT, "bad", ("leaf", "")), "stuck", (("stuck", "bad"), (1,), ("source",)))
        self.check(PROJECT, with_source(PROJECT, "s", FAULT), "one", (("one", "s"), (0,), ("source",)))
        self.check(PROJECT, with_source(PROJECT, "gnir", SAYS), "ring", (("ring", "gnir"), (1,), ("source",)))
        self.check(PROJECT, with_source(PROJECT, "s", passes_on("one")), "one", (("one", "s"), (0,), ("source",)))

    def test_lacks_against_values_and_what_is_stuck(self):
        rule = ("rule", ("text b x", "ask a b", "say a"))
        asks = project_of(a=rule, b=passes_on("a"))
        self.check(asks, with_source(asks, "x", ("leaf", "")), "b", (("b", "a", "x"), (0, 0), ("source",)))
        # Neither a lack nor what is stuck lets it end with a value.
        self.check(asks, with_source(asks, "x", FAULT), "b", None)
        self.check(asks, with_source(asks, "x", FAULT), "x", (("x",), (), ("source",)))

    def test_bad_names(self):
        for name in NO_NAMES:
            bad_name_alone(self, reason, PROJECT, PROJECT, name)
            bad_name_alone(self, reason_holds, PROJECT, PROJECT, name, (("x",), (), ("source",)))
            bad_name_alone(self, reason_holds, PROJECT, PROJECT, name, ((name,), (), ("source",)))


class ReasonsThatHold(unittest.TestCase):
    def check_wrong(self, project, other, name, *wrong):
        for told in wrong:
            self.assertIs(reason_holds(project, other, name, told), False, told)
            self.assertIs(reason_holds(other, project, name, told), False, told)

    def test_where_it_stands_alike(self):
        other = with_source(PROJECT, "s", ("leaf", ""))
        self.check_wrong(PROJECT, other, "one", (("one", "s"), (0,), ("source",)), (("one",), (), ("source",)), ((), (), ("source",)),
                         (("one",), (), ("ask", ("has", "s"))), (("s",), (), ("source",)))
        self.check_wrong(PROJECT, PROJECT, "q", (("q",), (), ("source",)), ((), (), ("source",)))

    def test_put_otherwise(self):
        base = with_source(PROJECT, "q", SAYS)
        other = with_source(base, "s", ("leaf", "t"))
        self.assertIs(reason_holds(base, other, "wide", (("wide", "one", "s"), (1, 0), ("source",))), True)
        self.check_wrong(base, other, "wide", (("wide", "s"), (3,), ("source",)), (("wide", "one"), (1,), ("source",)),
                         (("wide", "one", "s"), (1, 1), ("source",)), (("wide", "one", "s"), (1,), ("source",)),
                         (("wide", "one", "s"), (1, 0, 0), ("source",)), (("one", "s"), (0,), ("source",)),
                         (("wide", "one", "s", "s"), (1, 0, 0), ("source",)), (("wide", "one", "s"), (1, 0), ("ask", ("has", "s"))),
                         (("wide", "one", "x"), (1, 0), ("source",)), (("wide", "q", "s"), (1, 0), ("source",)), ((), (), ("source",)),
                         (("one", "wide", "s"), (1, 0), ("source",)), (("wide", "one", "s"), (-1, 0), ("source",)),
                         (("wide", "one", "no name"), (1, 0), ("source",)), (("wide", "one", "s"), (10 ** 30 - 1, 0), ("source",)))

    def test_asks_put_otherwise(self):
        rule = ("rule", ("text b x", "has a b", "names c b", "say a"))
        project = project_of(a=rule)
        other = project_of(a=rule, x=SAYS)
        self.assertIs(reason_holds(project, other, "a", (("a",), (), ("ask", ("has", "x")))), True)
        self.check_wrong(project, other, "a", (("a",), (), ("source",)), (("a",), (), ("ask", ("names", "x"))),
                         (("a",), (), ("ask", ("thing", "x"))), (("a",), (), ("ask", ("has", "y"))), (("a",), (0,), ("ask", ("has", "x"))),
                         (("a", "x"), (0,), ("source",)), (("a", "a"), (0,), ("ask", ("has", "x"))))


def is_reason(project, other, name, told):
    """Looks at a reason part by part, with the full runs of both."""
    names, places, last = told
    if names[:1] != (name,) or len(places) != len(names) - 1:
        return False
    if any(stands(project, met) == stands(other, met) for met in names):
        return False
    for met, place, after in zip(names, places, names[1:]):
        if project.source_of(met) != other.source_of(met) or unlike_place(project, other, met) != place:
            return False
        if [kind for kind, text in asks_up_to(project, met, place) if text == after][-1:] not in (["thing"], ["rule"]):
            return False
    met = names[-1]
    if project.source_of(met) != other.source_of(met):
        return last == ("source",)
    return last == ("ask", asks_up_to(project, met, unlike_place(project, other, met))[-1]) and last[1][0] in ("has", "names")


def asks_up_to(project, name, place):
    asks, end = full_run(project, name)
    asked = [ask for ask, answer in asks] + ([("thing", end[1])] if end[0] == "stuck" else [])
    return asked[:place + 1][place:]


def unlike_place(project, other, name):
    """The first place at which the runs are unlike."""
    one = full_run(project, name)[0]
    two = full_run(other, name)[0]
    place = 0
    while one[place:place + 1] == two[place:place + 1] != ():
        place += 1
    return place


class ManyReasons(unittest.TestCase):
    def test_many(self):
        chance = random.Random(67)
        seen = {}
        for step in range(600):
            names, project = chance.choice((some_project, layered_project, layered_project, layered_project))(chance)
            other = layered_change(chance, project, names)
            for name in names:
                told = reason(project, other, name)
                self.assertEqual(told, reason(other, project, name))
                alike = stands(project, name) == stands(other, name)
                self.assertEqual(told is None, alike)
                self.check_turned(chance, project, other, name, names, told)
                if told is not None:
                    self.assertTrue(is_reason(project, other, name, told))
                    kind = (len(told[0]), told[2][0])
                    seen[kind] = seen.get(kind, 0) + 1
        for kind, many in (((1, "source"), 100), ((2, "source"), 50), ((3, "source"), 20), ((1, "ask"), 10), ((2, "ask"), 1)):
            self.assertGreater(seen[kind], many, seen)

    def check_turned(self, chance, project, other, name, names, told):
        for turn in range(4):
            way, places, last = told or ((name,), (), ("source",))
            pick = chance.randrange(6)
            at = chance.randrange(len(way))
            if pick == 0:
                way = way[:at] + (chance.choice(names),) + way[at + 1:]
            elif pick == 1:
                way = way[:at] + way[at + 1:]
                places = places[:at] + places[at + 1:]
            elif pick == 2:
                way = way + (chance.choice(names),)
                places = places + (chance.randrange(3),)
            elif pick == 3:
                places = tuple(chance.randrange(3) for place in places)
            elif pick == 4:
                last = chance.choice((("source",), ("ask", (chance.choice(("has", "names", "thing")), chance.choice(names)))))
            turned = (way, places, last)
            self.assertIs(reason_holds(project, other, name, turned), turned == told)
            if turned != told and told is not None:
                self.assertFalse(is_reason(project, other, name, turned))

    def test_what_stands_tells_the_answer(self):
        chance = random.Random(71)
        for step in range(50):
            names, project = some_project(chance)
            for name in names:
                answer = answer_of(project, name)
                expected = ("none",) if answer[0] in ("fault", "stuck") else answer
                self.assertEqual(stands(project, name), expected)
                self.assertIn(expected[0], ("value", "none") if has_rule(project, name) else ("value", "lack"))


if __name__ == "__main__":
    unittest.main()
