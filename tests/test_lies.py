"""Promises 9.1 and 9.2: lies, their places and their givers."""

import random
import unittest

from askwright.asktree import clash_of
from askwright.errors import BadName, BadRule
from askwright.keeps import Keep, clashes, laid_on
from askwright.lies import cleared, liars, lie_place, lies_of
from askwright.machine import does
from askwright.house import way_of
from helpers import NO_NAMES, keep_of, run_of, some_keep, some_project, turned_run, ways_in

# Asks for x; then whether there is y; says what x is.
RULE = ("text b x", "ask a b", "text b y", "has c b", "say a")
X = (("thing", "x"), "v")
HAS = (("has", "y"), "no")
SAID = ("said", "v")
HONEST = run_of(SAID, X, HAS)


class Places(unittest.TestCase):
    def check_place(self, place, run, rule=RULE, own="own"):
        self.assertEqual(lie_place(rule, own, run), place, run)
        self.assertEqual(does(rule, own, run), place is None)

    def test_honest_ways(self):
        for run in (HONEST, run_of(("fault", "lack"), (("thing", "x"), None)),
                    run_of(("said", ()), (("thing", "x"), ()), (("has", "y"), "yes"))):
            self.check_place(None, run)
        self.check_place(None, run_of(("said", "own")), ("self a", "say a"))
        self.check_place(None, run_of(("fault", "long")), ("go 1",))
        self.check_place(None, run_of(("said", ("b", "a")), (("names", ""), ("b", "a"))), ("names a b", "say a"))

    def test_another_end(self):
        for end in (("said", "w"), ("said", ()), ("fault", "told"), ("fault", "lack")):
            self.check_place(2, run_of(end, X, HAS))
        self.check_place(1, run_of(SAID, (("thing", "x"), None)))
        self.check_place(1, run_of(("fault", "big"), (("thing", "x"), None)))
        self.check_place(0, run_of(("said", "other")), ("self a", "say a"))
        self.check_place(0, run_of(("said", "own")), ("self a", "say a"), "other")

    def test_another_ask(self):
        for kind, text in (("thing", "y"), ("has", "x"), ("names", "x"), ("rule", "x"), ("odd", "x")):
            self.check_place(0, run_of(SAID, ((kind, text), "v"), HAS))
        for kind, text in (("thing", "y"), ("has", "x"), ("names", "y"), ("Has", "y")):
            self.check_place(1, run_of(SAID, X, ((kind, text), "no")))

    def test_left_out_exchanged_or_in_between(self):
        more = (("thing", "q"), None)
        for place, asks in ((0, (HAS,)), (0, (HAS, X)), (0, (more, X, HAS)), (1, (X, more, HAS)), (1, (X, X, HAS))):
            self.check_place(place, run_of(SAID, *asks))

    def test_cut_off_or_too_long(self):
        self.check_place(0, run_of(SAID))
        self.check_place(1, run_of(SAID, X))
        self.check_place(2, run_of(SAID, X, HAS, HAS))
        self.check_place(2, run_of(SAID, X, HAS, X, HAS))
        self.check_place(1, run_of(("fault", "lack"), (("thing", "x"), None), HAS))
        self.check_place(0, run_of(("said", ""), X), ("say a",))

    def test_an_answer_that_is_none(self):
        for answer in (None, "", "maybe", (), ("yes",), "v"):
            self.check_place(1, run_of(SAID, X, (("has", "y"), answer)))
        for answer in (None, "", "x", ("X",), (("x",),)):
            self.check_place(0, run_of(("said", answer or ""), (("names", ""), answer)), ("names a b", "say a"))

    def test_refusals(self):
        for rule in (None, 4, "", "say a", (), ("say",), ["say a"]):
            self.assertRaises(BadRule, lie_place, rule, "own", HONEST)
            self.assertRaises(BadRule, lie_place, rule, "Own", HONEST)
        for own in NO_NAMES:
            self.assertRaises(BadName, lie_place, RULE, own, HONEST)


class Keeps(unittest.TestCase):
    SHORT = ("self a", "say a")
    LIE = run_of(("said", "lie"), (("thing", "x"), "w"), HAS)
    EARLY = run_of(SAID, (("thing", "x"), "u"), (("thing", "z"), None))

    def setUp(self):
        self.keep = keep_of((RULE, "own", HONEST, (1,)), (RULE, "own", self.LIE, (4, 9)), (RULE, "own", self.EARLY, ()),
                            (RULE, "b", self.LIE, (2,)), (self.SHORT, "c", run_of(("said", "c")), (7,)),
                            (self.SHORT, "d", run_of(("said", "c")), (4, 50)))

    def test_lies_by_keys_and_ways(self):
        self.assertEqual(lies_of(self.keep), ((self.SHORT, "d", run_of(("said", "c")), 0, (4, 50)), (RULE, "b", self.LIE, 2, (2,)),
                                              (RULE, "own", self.EARLY, 1, ()), (RULE, "own", self.LIE, 2, (4, 9))))

    def test_cleared(self):
        ahead = ways_in(self.keep)
        honest = cleared(self.keep)
        self.assertIsInstance(honest, Keep)
        self.assertEqual(ways_in(honest), ((self.SHORT, "c", run_of(("said", "c")), (7,)), (RULE, "own", HONEST, (1,))))
        self.assertEqual(ways_in(self.keep), ahead)
        honest.put(RULE, "own", HONEST, (5,))
        self.assertEqual(ways_in(self.keep), ahead)
        self.assertEqual(lies_of(honest), ())

    def test_without_a_lie(self):
        for keep in (Keep(), keep_of((RULE, "own", HONEST, (1,)))):
            self.assertEqual(lies_of(keep), ())
            self.assertEqual(liars(keep), ())
            self.assertEqual(ways_in(cleared(keep)), ways_in(keep))

    def test_lies_alone(self):
        keep = keep_of((RULE, "own", self.LIE, ()))
        self.assertEqual(ways_in(cleared(keep)), ())
        self.assertEqual(cleared(keep).kept_keys(), ())
        self.assertEqual(liars(keep), ())

    def test_liars(self):
        self.assertEqual(liars(self.keep), (2, 4, 9, 50))
        self.assertEqual(liars(keep_of((RULE, "own", self.LIE, (3,)), (RULE, "own", HONEST, (1,)))), (3,))
        self.assertEqual(liars(keep_of((RULE, "b", self.LIE, (10, 99)), (RULE, "own", self.LIE, (0, 9)))), (0, 9, 10, 99))


class Clashes(unittest.TestCase):
    def test_of_two_ways_that_clash_one_is_a_lie(self):
        chance = random.Random(31)
        clashed = 0
        for step in range(150):
            names, project = some_project(chance)
            for name in names:
                way = way_of(project, name)
                if way is None:
                    continue
                rule, own, run = way
                self.assertIsNone(lie_place(rule, own, run))
                one, other = (turned_run(chance, run, names) for turn in range(2))
                for left, right in ((one, other), (run, one)):
                    if clash_of(left, right) is not None:
                        clashed += 1
                        self.assertFalse(does(rule, own, left) and does(rule, own, right))
        self.assertGreater(clashed, 200)

    def test_honest_keeps_never_clash(self):
        chance = random.Random(32)
        for step in range(60):
            names, project = some_project(chance)
            one, other = (cleared(some_keep(chance, project, names)) for turn in range(2))
            self.assertEqual(clashes(one, other), ())
            self.assertEqual(lies_of(laid_on(one, other)), ())


if __name__ == "__main__":
    unittest.main()
