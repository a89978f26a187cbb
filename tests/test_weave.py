"""Promises 11.1 to 11.3: weaving, thing by thing and by rounds."""

import random
import unittest

from askwright.errors import NoDeed
from askwright.house import House, way_of
from askwright.keeps import Keep
from askwright.plain import answer_of, chain_of, full_run, met_by
from askwright.project import with_source
from askwright.weave import Weave
from helpers import (asks_for, has_rule, keep_of, key_and_run, layered_change, layered_project, next_news, passes_on,
                     plain_deed, project_of, run_of, some_project, ways_in)

FAULT = ("rule", ("fault",))
SAYS = ("rule", ("say a",))
RULE = ("text b x", "ask a b", "say a")


def weave_of(*names, keep=None, number=7, **sources):
    return Weave(project_of(**sources), keep or Keep(), names, number)


def state_of(weave):
    """All that a weaving tells of itself."""
    names = weave.demanded()
    return (names, weave.can_go(), weave.begun(), ways_in(weave.keep()),
            tuple((weave.ended(name), weave.waits_for(name), answer_or_none(weave, name)) for name in names))


def answer_or_none(weave, name):
    try:
        return weave.answer(name)
    except NoDeed:
        return None


def go_all(weave, choose):
    """Thing by thing, till none can go."""
    while weave.can_go():
        weave.go(choose(weave.can_go()))


class WeaveCase(unittest.TestCase):
    def check(self, weave, demanded, can_go):
        self.assertEqual(weave.demanded(), demanded)
        self.assertEqual(weave.can_go(), can_go)

    def check_refused(self, weave, deed, *names):
        ahead = state_of(weave)
        for name in names:
            with self.assertRaises(NoDeed) as caught:
                deed(name)
            self.assertIs(caught.exception.__class__, NoDeed)
        self.assertEqual(state_of(weave), ahead)


class AtFirst(WeaveCase):
    SOURCES = dict(a=SAYS, b=passes_on("a"), m=("made", "r"), r=("leaf", RULE), x=("leaf", "v"), no=("rule", "no"))

    def test_what_is_demanded(self):
        for names, demanded in (((), ()), (("x",), ()), (("q", "r", "x"), ()), (("m", "b"), ("b", "m")),
                                (("b", "b", "x", "no", "q", "b"), ("b", "no")), (("a",), ("a",))):
            self.check(weave_of(*names, **self.SOURCES), demanded, demanded)

    def test_nothing_is_begun_ahead_of_the_first_stretch(self):
        weave = weave_of("a", "b", "m", **self.SOURCES)
        self.assertEqual(weave.begun(), ())
        for name in ("a", "b", "m", "x", "q"):
            self.assertIsNone(weave.ended(name))
            self.assertIsNone(weave.waits_for(name))
        self.assertEqual(weave.keep().many(), 0)

    def test_without_names(self):
        weave = weave_of(x=("leaf", "v"), a=SAYS)
        self.assertEqual(weave.go_round(()), ())
        self.assertEqual(weave.answer("x"), ("value", "v"))
        self.check_refused(weave, weave.answer, "a")
        self.check(weave, (), ())


class Stretches(WeaveCase):
    def test_that_end_said_or_with_a_fault(self):
        weave = weave_of("a", "b", "c", "d", a=asks_for("x", "x"), x=("leaf", "v"), b=FAULT, c=passes_on("q"), d=("rule", "no"))
        self.assertEqual(weave.go("c"), ("ended", ("fault", "lack")))
        self.check(weave, ("a", "b", "c", "d"), ("a", "b", "d"))
        self.assertEqual(weave.go("a"), ("ended", ("said", ("v", "v"))))
        self.assertEqual(weave.go("d"), ("ended", ("fault", "rule")))
        self.assertEqual(weave.go("b"), ("ended", ("fault", "told")))
        self.check(weave, ("a", "b", "c", "d"), ())
        self.assertEqual(weave.ended("a"), ("said", ("v", "v")))
        self.assertEqual(weave.ended("d"), ("fault", "rule"))
        self.assertEqual(weave.begun(), (("a", 0), ("b", 0), ("c", 0)))
        self.assertEqual(weave.answer("c"), ("fault", "lack"))

    def test_that_wait(self):
        weave = weave_of("a", a=asks_for("x", "b", "c"), b=asks_for("c"), c=SAYS, x=("leaf", "v"))
        self.assertEqual(weave.go("a"), ("waits", "b"))
        self.check(weave, ("a", "b"), ("b",))
        self.assertEqual((weave.ended("a"), weave.waits_for("a"), weave.waits_for("b")), (None, "b", None))
        self.assertEqual(weave.go("b"), ("waits", "c"))
        self.check(weave, ("a", "b", "c"), ("c",))
        self.assertEqual(weave.go("c"), ("ended", ("said", "")))
        self.check(weave, ("a", "b", "c"), ("b",))
        self.assertEqual((weave.waits_for("b"), weave.waits_for("a")), ("c", "b"))
        self.assertEqual(weave.go("b"), ("ended", ("said", ("",))))
        self.assertEqual((weave.waits_for("b"), weave.waits_for("a")), (None, "b"))
        self.assertEqual(weave.go("a"), ("ended", ("said", ("v", ("",), ""))))
        self.assertIsNone(weave.waits_for("a"))
        self.check(weave, ("a", "b", "c"), ())

    def test_that_wait_twice(self):
        weave = weave_of("a", a=asks_for("b", "c"), b=SAYS, c=SAYS)
        self.assertEqual([weave.go("a"), weave.go("b"), weave.go("a"), weave.waits_for("a")],
                         [("waits", "b"), ("ended", ("said", "")), ("waits", "c"), "c"])
        self.check(weave, ("a", "b", "c"), ("c",))

    def test_that_are_stuck_at_what_ended(self):
        weave = weave_of("a", "b", "c", a=asks_for("x", "b"), b=FAULT, c=passes_on("a"), x=("leaf", ""))
        self.assertEqual(weave.go("b"), ("ended", ("fault", "told")))
        self.assertEqual(weave.go("a"), ("ended", ("stuck", "b")))
        self.assertEqual(weave.go("c"), ("ended", ("stuck", "a")))
        self.assertEqual((weave.ended("a"), weave.ended("c"), weave.waits_for("a")), (("stuck", "b"), ("stuck", "a"), None))
        self.assertEqual((weave.answer("a"), weave.answer("c")), (("stuck", "b"), ("stuck", "a")))
        self.assertEqual(ways_in(weave.keep()), ((FAULT[1], "b", run_of(("fault", "told")), (7,)),))
        self.assertEqual(weave.begun(), (("a", 0), ("b", 0), ("c", 0)))

    def test_that_waited_and_then_are_stuck(self):
        weave = weave_of("a", a=passes_on("b"), b=FAULT)
        self.assertEqual([weave.go("a"), weave.go("b")], [("waits", "b"), ("ended", ("fault", "told"))])
        self.assertEqual((weave.waits_for("a"), weave.can_go()), ("b", ("a",)))
        self.assertEqual(weave.go("a"), ("ended", ("stuck", "b")))
        self.assertIsNone(weave.waits_for("a"))

    def test_of_a_made_thing(self):
        says_rule = ("rule", ("row a", "text b text b y", "put a b", "text b ask c b", "put a b", "text b say c", "put a b", "say a"))
        weave = weave_of("m", m=("made", "r"), r=says_rule, y=SAYS)
        self.assertEqual(weave.go("m"), ("waits", "r"))
        self.check(weave, ("m", "r"), ("r",))
        self.assertEqual(weave.begun(), ())
        weave.go("r")
        self.assertEqual(weave.go("m"), ("waits", "y"))
        self.assertEqual(weave.begun(), (("m", 0), ("r", 0)))
        weave.go("y")
        self.assertEqual(weave.go("m"), ("ended", ("said", "")))
        self.assertEqual([way[1:3] for way in ways_in(weave.keep())], [
            ("r", run_of(("said", ("text b y", "ask c b", "say c")))), ("y", run_of(("said", ""))),
            ("m", run_of(("said", ""), (("thing", "y"), "")))])

    def test_of_made_things_at_once(self):
        weave = weave_of("a", "b", "c", "d", "e", a=("made", "q"), b=("made", "x"), c=("made", "r"), x=("leaf", "v"),
                         r=("leaf", RULE), d=("made", "e"), e=FAULT)
        self.assertEqual(weave.go("a"), ("ended", ("fault", "lack")))
        self.assertEqual(weave.go("b"), ("ended", ("fault", "rule")))
        self.assertEqual(weave.go("c"), ("ended", ("said", "v")))
        weave.go("e")
        self.assertEqual(weave.go("d"), ("ended", ("stuck", "e")))
        self.assertEqual(weave.begun(), (("c", 0), ("e", 0)))

    def test_that_ask_of_has_and_names_alone(self):
        weave = weave_of("a", a=("rule", ("text b b", "has c b", "names d b", "put d c", "say d")), b=passes_on("b"))
        self.assertEqual(weave.go("a"), ("ended", ("said", ("b", "yes"))))
        self.check(weave, ("a",), ())

    def test_demanded_by_several(self):
        weave = weave_of("a", "b", a=passes_on("c"), b=passes_on("c"), c=SAYS)
        weave.go("a")
        self.assertEqual(weave.go("b"), ("waits", "c"))
        self.check(weave, ("a", "b", "c"), ("c",))
        weave.go("c")
        self.check(weave, ("a", "b", "c"), ("a", "b"))


class Rings(WeaveCase):
    def test_what_asks_for_itself(self):
        weave = weave_of("a", "m", a=asks_for("x", "a"), x=("leaf", ""), m=("made", "m"))
        self.assertEqual(weave.go("a"), ("waits", "a"))
        self.assertEqual(weave.go("m"), ("waits", "m"))
        self.check(weave, ("a", "m"), ())
        self.assertEqual((weave.answer("a"), weave.answer("m")), (("stuck", "a"), ("stuck", "m")))
        self.assertEqual((weave.ended("a"), weave.waits_for("a")), (None, "a"))
        self.assertEqual((weave.begun(), weave.keep().many()), ((("a", 0),), 0))

    def test_what_asks_for_what_waits_for_it(self):
        weave = weave_of("a", a=passes_on("b"), b=passes_on("c"), c=passes_on("b"))
        for name, other in (("a", "b"), ("b", "c"), ("c", "b")):
            self.check_refused(weave, weave.answer, "a")
            self.assertEqual(weave.go(name), ("waits", other))
        self.check(weave, ("a", "b", "c"), ())
        self.assertEqual([weave.answer(name) for name in "abc"], [("stuck", "b"), ("stuck", "c"), ("stuck", "b")])
        self.check_refused(weave, weave.go, "a", "b", "c")


class Refused(WeaveCase):
    SOURCES = dict(a=passes_on("b"), b=passes_on("c"), c=SAYS, d=SAYS, x=("leaf", "v"), f=FAULT, e=passes_on("f"))

    def test_go(self):
        weave = weave_of("a", "e", "f", **self.SOURCES)
        self.check_refused(weave, weave.go, "b", "c", "d", "x", "q", "A", "")
        weave.go("a")
        self.check_refused(weave, weave.go, "a", "c", "d", "x", "q")
        weave.go("b")
        weave.go("c")
        self.check_refused(weave, weave.go, "a", "c", "d")
        weave.go("b")
        weave.go("a")
        weave.go("f")
        weave.go("e")
        self.check_refused(weave, weave.go, "a", "b", "c", "d", "e", "f", "x")

    def test_go_round(self):
        weave = weave_of("a", "d", "e", **self.SOURCES)
        self.check_refused(weave, weave.go_round, ("b",), ("a", "b"), ("d", "a", "x"), ("q", "a"), ("a", "a"), ("a", "d", "a"))
        weave.go("a")
        self.check_refused(weave, weave.go_round, ("a",), ("d", "a"), ("b", "d", "b"), ("b", "c"))
        weave.go("d")
        self.check_refused(weave, weave.go_round, ("d",), ("b", "d"))
        self.assertEqual(weave.go_round(("b",)), (("waits", "c"),))

    def test_answer(self):
        weave = weave_of("a", "e", **self.SOURCES)
        self.assertEqual((weave.answer("x"), weave.answer("q")), (("value", "v"), ("lack",)))
        self.check_refused(weave, weave.answer, "a", "e", "b", "c", "d")
        weave.go("a")
        self.check_refused(weave, weave.answer, "a", "e", "b", "c", "d")
        weave.go("e")
        weave.go("f")
        self.assertEqual((weave.answer("f"), weave.answer("x")), (("fault", "told"), ("value", "v")))
        self.check_refused(weave, weave.answer, "a", "e", "b")
        go_all(weave, min)
        self.assertEqual([weave.answer(name) for name in ("a", "b", "c", "e")],
                         [("value", ""), ("value", ""), ("value", ""), ("stuck", "f")])
        self.assertEqual((weave.answer("x"), weave.answer("q")), (("value", "v"), ("lack",)))
        self.check_refused(weave, weave.answer, "d")

    def test_answer_of_what_waits(self):
        weave = weave_of("a", "b", a=passes_on("a"), b=SAYS, c=SAYS)
        weave.go("a")
        self.check_refused(weave, weave.answer, "a", "c")
        weave.go("b")
        self.assertEqual(weave.answer("a"), ("stuck", "a"))
        self.check_refused(weave, weave.answer, "c")


class WithAKeep(WeaveCase):
    # Asks for x; for what x names; and has y where that is a row.
    RULE = ("text b x", "ask b b", "ask a b", "rowed a 6", "say a", "text b y", "has c b", "say c")

    def keep_by(self, *changes):
        house = House(self.project, Keep(), 3)
        house.answer("main")
        for name, source in changes:
            house.set_project(with_source(house.project(), name, source))
            house.answer("main")
        return house.keep()

    def setUp(self):
        self.project = project_of(main=("rule", self.RULE), x=("leaf", "p"), p=("leaf", "v"), r=("leaf", ("row",)))

    def woven(self, keep, *changes):
        project = self.project
        for name, source in changes:
            project = with_source(project, name, source)
        weave = Weave(project, keep, ("main",), 5)
        ahead = ways_in(keep)
        go_all(weave, min)
        self.assertEqual(ways_in(keep), ahead)
        self.assertEqual(weave.answer("main"), answer_of(project, "main"))
        return weave

    def test_a_way_used(self):
        keep = self.keep_by()
        weave = self.woven(keep)
        self.assertEqual(weave.begun(), ())
        self.assertEqual(ways_in(weave.keep()), ways_in(keep))

    def test_a_walk_that_falls_at_the_beginning(self):
        keep = keep_of((SAYS[1], "main", run_of(("said", "")), (3,)))
        weave = self.woven(keep)
        self.assertEqual(weave.begun(), (("main", 0),))
        self.assertEqual([way[3] for way in ways_in(weave.keep())], [(3,), (5,)])

    def test_a_walk_that_falls_in_the_middle(self):
        keep = self.keep_by()
        weave = self.woven(keep, ("x", ("leaf", "r")))
        self.assertEqual(weave.begun(), (("main", 1),))
        self.assertEqual([(len(way[2][0]), way[3]) for way in ways_in(weave.keep())], [(2, (3,)), (3, (5,))])

    def test_a_walk_that_falls_at_the_end(self):
        keep = self.keep_by(("x", ("leaf", "r")))
        weave = self.woven(keep, ("x", ("leaf", "r")), ("y", ("leaf", "")))
        self.assertEqual(weave.begun(), (("main", 3),))
        self.assertEqual(weave.keep().many(), 3)
        self.assertEqual(self.woven(keep, ("p", ("leaf", "w"))).begun(), (("main", 2),))

    def test_a_walk_that_waits_and_falls_behind_it(self):
        keep = self.keep_by()
        weave = Weave(with_source(self.project, "p", ("rule", ("text a w", "say a"))), keep, ("main",), 5)
        self.assertEqual(weave.go("main"), ("waits", "p"))
        self.assertEqual(weave.begun(), ())
        weave.go("p")
        self.assertEqual(weave.begun(), (("p", 0),))
        self.assertEqual(weave.go("main"), ("ended", ("said", "w")))
        self.assertEqual(weave.begun(), (("main", 2), ("p", 0)))

    def test_a_walk_that_stays_waiting(self):
        keep = self.keep_by()
        weave = self.woven(keep, ("p", passes_on("main")))
        self.assertEqual(weave.begun(), (("p", 0),))
        self.assertEqual(weave.waits_for("main"), "p")

    def test_a_made_thing_walks_behind_its_rule(self):
        project = project_of(m=("made", "r"), r=("leaf", RULE), x=("leaf", "v"))
        keep = keep_of((*way_of(project, "m"), ()))
        weave = Weave(project, keep, ("m",), 5)
        self.assertEqual(weave.go("m"), ("ended", ("said", "v")))
        self.assertEqual((weave.begun(), ways_in(weave.keep())), ((), ways_in(keep)))

    def test_a_machine_is_begun_once(self):
        # It waits for two things, one behind the other.
        weave = weave_of("a", a=asks_for("b", "c"), b=SAYS, c=SAYS)
        for name in ("a", "b", "a", "c", "a"):
            weave.go(name)
            self.assertEqual([pair for pair in weave.begun() if pair[0] == "a"], [("a", 0)])

    def test_keeps_are_copies(self):
        keep = self.keep_by()
        weave = Weave(self.project, keep, ("main",), 5)
        keep.take_out(*way_of(self.project, "main"))
        told = weave.keep()
        told.take_out(*way_of(self.project, "main"))
        weave.go("main")
        self.assertEqual((weave.begun(), weave.keep().many(), keep.many()), ((), 1, 0))

    def test_the_number(self):
        for number in (0, 99):
            weave = weave_of("a", number=number, a=SAYS)
            weave.go("a")
            self.assertEqual(ways_in(weave.keep()), ((SAYS[1], "a", run_of(("said", "")), (number,)),))


class ByRounds(WeaveCase):
    def test_in_the_order_of_its_names(self):
        weave = weave_of("a", "b", "c", "x", a=passes_on("d"), b=SAYS, c=FAULT, d=SAYS, x=("leaf", ""))
        self.assertEqual(weave.go_round(("c", "a", "b")), (("ended", ("fault", "told")), ("waits", "d"), ("ended", ("said", ""))))
        self.check(weave, ("a", "b", "c", "d"), ("d",))

    def test_by_what_had_ended_ahead_of_it(self):
        for order in (("a", "b", "m"), ("b", "m", "a"), ("m", "a", "b")):
            weave = weave_of("a", "b", "m", a=SAYS, b=passes_on("a"), m=("made", "a"))
            told = dict(zip(order, weave.go_round(order)))
            self.assertEqual(told, {"a": ("ended", ("said", "")), "b": ("waits", "a"), "m": ("waits", "a")})
            self.check(weave, ("a", "b", "m"), ("b", "m"))
            self.assertEqual(weave.waits_for("b"), "a")
            self.assertEqual(weave.go_round(("m", "b")), (("ended", ("fault", "rule")), ("ended", ("said", ""))))

    def test_some_of_those_that_can_go(self):
        weave = weave_of("a", "b", "c", a=SAYS, b=passes_on("a"), c=SAYS)
        weave.go_round(("a", "c"))
        self.check(weave, ("a", "b", "c"), ("b",))
        self.assertEqual(weave.go_round(("b",)), (("ended", ("said", "")),))

    def test_of_none(self):
        weave = weave_of("a", a=passes_on("b"), b=SAYS)
        ahead = state_of(weave)
        self.assertEqual(weave.go_round(()), ())
        self.assertEqual(state_of(weave), ahead)

    def test_both_demand_one(self):
        weave = weave_of("a", "b", a=passes_on("b"), b=passes_on("a"))
        self.assertEqual(weave.go_round(("b", "a")), (("waits", "a"), ("waits", "b")))
        self.check(weave, ("a", "b"), ())


class Histories(unittest.TestCase):
    """Each stretch as the full runs tell it, and one state in the end however it is woven."""

    def test_many(self):
        chance = random.Random(41)
        seen = {"waiting": 0, "ended": 0, "stuck": 0, "known": 0, "used": 0}
        for step in range(350):
            names, project = chance.choice((some_project, layered_project, layered_project))(chance)
            keep = self.some_honest_keep(chance, project, names)
            picked = tuple(chance.choices(names, k=chance.randrange(1, 5)))
            expected = self.expected_end(project, keep, picked, 9, seen)
            for turn in range(4):
                weave = Weave(project, keep, picked, 9)
                ahead = ways_in(keep)
                self.weave_on(chance, project, weave, picked, chance.choice((1, 2, 20)))
                self.assertEqual(state_of(weave), expected)
                self.assertEqual(ways_in(keep), ahead)
        for word, many in seen.items():
            self.assertGreater(many, 20, word)

    def some_honest_keep(self, chance, project, names):
        # Of projects that lie near: so some ways serve, and some walks fall.
        house = House(project, Keep(), 1)
        for step in range(chance.randrange(4)):
            house.set_project(layered_change(chance, layered_change(chance, project, names), names))
            house.answers(tuple(names))
        return house.keep()

    def weave_on(self, chance, project, weave, picked, most):
        ended = {}
        waits = {}
        demanded = {name for name in picked if has_rule(project, name)}
        while True:
            free = sorted(name for name in demanded if name not in ended and waits.get(name) in [None, *ended])
            self.assertEqual(weave.demanded(), tuple(sorted(demanded)))
            self.assertEqual(weave.can_go(), tuple(free))
            if not free:
                return
            names = tuple(chance.sample(free, min(len(free), chance.randrange(1, most + 1))))
            news = tuple(next_news(project, name, ended) for name in names)
            self.assertEqual((weave.go(names[0]),) if len(names) == 1 else weave.go_round(names), news)
            for name, (word, other) in zip(names, news):
                waits.pop(name, None)
                if word == "ended":
                    ended[name] = other
                else:
                    waits[name] = other
                    demanded.add(other)
            for name in demanded:
                self.assertEqual((weave.ended(name), weave.waits_for(name)), (ended.get(name), waits.get(name)))

    def expected_end(self, project, keep, picked, number, seen):
        names = sorted({met for name in picked for met in met_by(project, name)})
        begun = []
        things = []
        held = keep.copy()
        for name in names:
            deed = plain_deed(project, name, keep)
            if deed[0] in ("done", "left"):
                begun.append((name, deed[2]))
                seen["known"] += deed[2] > 0
            if deed[0] == "done":
                key, run = key_and_run(project, name)
                held.put(*key, run, (number,))
            seen["used"] += deed[0] == "used"
            end = full_run(project, name)[1]
            in_ring = chain_of(project, name)[1] != ()
            things.append((None, end[1], answer_of(project, name)) if in_ring else (end, None, answer_of(project, name)))
            seen["waiting" if in_ring else "stuck" if end[0] == "stuck" else "ended"] += 1
        return (tuple(names), (), tuple(begun), ways_in(held), tuple(things))


if __name__ == "__main__":
    unittest.main()
