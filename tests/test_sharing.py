"""Promises 10.1 and 10.2 of keeps: ways put together, and picked by their givers."""

import random
import unittest

from askwright.errors import Clash
from askwright.keeps import Keep, laid_on
from askwright.lies import cleared, liars, lies_of
from askwright.sharing import put_all, shunned, trusted
from helpers import keep_of, run_of, some_keep, some_project, ways_in

RULE = ("text b x", "ask a b", "say a")
SHORT = ("say a",)
X = ("thing", "x")
ONE = run_of(("said", "a"), (X, "a"))
TWO = run_of(("said", "b"), (X, "b"))
LIE = run_of(("said", "lie"), (X, "b"))
OTHER = run_of(("said", "other"), (X, "b"))


class PutAll(unittest.TestCase):
    def put(self, keep, other):
        ahead = (ways_in(keep), ways_in(other))
        both, left = put_all(keep, other)
        self.assertIsInstance(both, Keep)
        self.assertEqual((ways_in(keep), ways_in(other)), ahead)
        return ways_in(both), left

    def test_nothing(self):
        keep = keep_of((RULE, "x", ONE, (1,)))
        self.assertEqual(self.put(Keep(), Keep()), ((), ()))
        self.assertEqual(self.put(keep, Keep()), (ways_in(keep), ()))
        self.assertEqual(self.put(Keep(), keep), (ways_in(keep), ()))
        self.assertEqual(self.put(keep, keep), (ways_in(keep), ()))

    def test_a_way_that_is_there_gets_the_givers_besides(self):
        keep = keep_of((RULE, "x", ONE, (1, 5)), (RULE, "x", TWO, ()))
        other = keep_of((RULE, "x", ONE, (0, 5)), (RULE, "y", ONE, (3,)), (RULE, "x", TWO, (9,)))
        self.assertEqual(self.put(keep, other), (((RULE, "x", ONE, (0, 1, 5)), (RULE, "x", TWO, (9,)), (RULE, "y", ONE, (3,))), ()))

    def test_what_clashes_is_left(self):
        keep = keep_of((RULE, "x", LIE, (1,)), (RULE, "y", run_of(("said", "q")), (1,)))
        other = keep_of((RULE, "x", ONE, (2,)), (RULE, "x", TWO, (2,)), (RULE, "y", ONE, (2,)), (RULE, "y", TWO, (2,)),
                        (SHORT, "x", run_of(("said", "")), (2,)))
        self.assertEqual(self.put(keep, other), (
            ((SHORT, "x", run_of(("said", "")), (2,)), (RULE, "x", ONE, (2,)), (RULE, "x", LIE, (1,)), (RULE, "y", run_of(("said", "q")), (1,))),
            ((RULE, "x", TWO), (RULE, "y", ONE), (RULE, "y", TWO))))
        self.assertEqual(self.put(other, keep)[1], ((RULE, "x", LIE), (RULE, "y", run_of(("said", "q")))))

    def test_a_keep_of_its_own(self):
        keep = keep_of((RULE, "x", ONE, (1,)))
        other = keep_of((RULE, "y", ONE, (1,)))
        both = put_all(keep, other)[0]
        both.put(RULE, "x", ONE, (2,))
        both.put(RULE, "y", TWO, (2,))
        self.assertEqual(ways_in(keep) + ways_in(other), ((RULE, "x", ONE, (1,)), (RULE, "y", ONE, (1,))))

    def test_many(self):
        chance = random.Random(41)
        left_in_all = 0
        for step in range(120):
            names, project = some_project(chance)
            keep, other = (some_keep(chance, project, names) for turn in range(2))
            ways, left = self.put(keep, other)
            self.assertEqual((ways, left), self.one_by_one(keep, other))
            left_in_all += len(left)
            honest = (cleared(keep), cleared(other))
            self.assertEqual(self.put(*honest), (ways_in(laid_on(*honest)), ()))
        self.assertGreater(left_in_all, 50)

    def one_by_one(self, keep, other):
        both = keep.copy()
        left = []
        for rule, own, run, givers in ways_in(other):
            try:
                both.put(rule, own, run, givers)
            except Clash:
                left.append((rule, own, run))
        return ways_in(both), tuple(left)


class Givers(unittest.TestCase):
    WAYS = ((SHORT, "x", run_of(("said", "")), ()), (RULE, "x", ONE, (1,)), (RULE, "x", TWO, (1, 4, 9)), (RULE, "y", LIE, (4,)))

    def check_picked(self, pick, givers, *ways):
        keep = keep_of(*self.WAYS)
        picked = pick(keep, givers)
        self.assertIsInstance(picked, Keep)
        self.assertEqual(ways_in(picked), ways)
        self.assertEqual(ways_in(keep), self.WAYS)

    def test_trusted(self):
        bare, one, three, four = self.WAYS
        self.check_picked(trusted, ())
        self.check_picked(trusted, (1,), one, three)
        self.check_picked(trusted, (4,), three, four)
        self.check_picked(trusted, (9,), three)
        self.check_picked(trusted, (0, 5, 10, 99))
        self.check_picked(trusted, (1, 4), one, three, four)
        self.check_picked(trusted, tuple(range(100)), one, three, four)

    def test_shunned(self):
        bare, one, three, four = self.WAYS
        self.check_picked(shunned, (), bare, one, three, four)
        self.check_picked(shunned, (1,), bare, four)
        self.check_picked(shunned, (4,), bare, one)
        self.check_picked(shunned, (9,), bare, one, four)
        self.check_picked(shunned, (0, 5, 10, 99), bare, one, three, four)
        self.check_picked(shunned, (1, 4), bare)
        self.check_picked(shunned, tuple(range(100)), bare)

    def test_picked_ways_are_of_their_own(self):
        keep = keep_of(*self.WAYS)
        for picked in (trusted(keep, (1,)), shunned(keep, (4,))):
            picked.put(RULE, "x", ONE, (50,))
            picked.take_out(RULE, "x", ONE)
        self.assertEqual(ways_in(keep), self.WAYS)

    def test_without_the_liars_no_lie_but_those_without_givers(self):
        chance = random.Random(42)
        for step in range(60):
            names, project = some_project(chance)
            keep = some_keep(chance, project, names)
            self.assertEqual([lie[4] for lie in lies_of(shunned(keep, liars(keep))) if lie[4]], [])
            self.assertEqual(len(ways_in(trusted(keep, (3, 7)))) + len(ways_in(shunned(keep, (3, 7)))), keep.many())


if __name__ == "__main__":
    unittest.main()
