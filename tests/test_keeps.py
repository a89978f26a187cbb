"""Promises 6.1 to 6.4 of keeps: trees of asks by their keys, laid on one another."""

import random
import unittest

from askwright.asktree import AskTree
from askwright.errors import BadKeep, BadName, BadRule, Clash
from askwright.house import way_of
from askwright.keeps import Keep, clashes, laid_on
from helpers import NO_NAMES, keep_of, run_of, runs_in, some_project, ways_in

RULE = ("text b x", "ask a b", "say a")
SHORT = ("say a",)
X = ("thing", "x")
Y = ("thing", "y")
SAID = ("said", "v")
OTHER = ("said", "w")
ONE = run_of(SAID, (X, "a"))
TWO = run_of(SAID, (X, "b"))
NO_RULES = (None, 4, True, "", "say a", (), ("say",), ["say a"], ("say a", ("say a",)), {})


class Keeps(unittest.TestCase):
    def test_nothing_kept(self):
        keep = Keep()
        self.assertEqual(keep.kept_keys(), ())
        self.assertEqual(keep.many(), 0)
        self.assertIsInstance(keep.tree_of(RULE, "x"), AskTree)
        self.assertEqual(keep.tree_of(RULE, "x").ways(), ())
        self.assertEqual(keep.walk(RULE, "x", ("a",)), ((), None))
        self.assertEqual(keep.kept_keys(), ())

    def test_put(self):
        keep = Keep()
        self.assertIsNone(keep.put(RULE, "x", ONE, (3,)))
        self.assertEqual(keep.tree_of(RULE, "x").ways(), ((ONE, (3,)),))
        self.assertEqual(keep.kept_keys(), ((RULE, "x"),))
        self.assertEqual(keep.many(), 1)

    def test_each_key_has_a_tree_of_its_own(self):
        keep = keep_of((RULE, "x", ONE, ()), (RULE, "y", run_of(OTHER), ()), (SHORT, "x", run_of(SAID), (1,)))
        self.assertEqual(runs_in(keep.tree_of(RULE, "x")), (ONE,))
        self.assertEqual(runs_in(keep.tree_of(RULE, "y")), (run_of(OTHER),))
        self.assertEqual(keep.tree_of(SHORT, "x").ways(), ((run_of(SAID), (1,)),))
        self.assertEqual(runs_in(keep.tree_of(SHORT, "y")), ())
        self.assertEqual(keep.many(), 3)

    def test_givers_come_together(self):
        keep = keep_of((RULE, "x", ONE, (5,)), (RULE, "x", ONE, (2, 5, 9)), (RULE, "x", TWO, ()))
        self.assertEqual(keep.tree_of(RULE, "x").ways(), ((ONE, (2, 5, 9)), (TWO, ())))
        self.assertEqual(keep.many(), 2)

    def test_a_tree_told_is_of_its_own(self):
        keep = keep_of((RULE, "x", ONE, (1,)))
        tree = keep.tree_of(RULE, "x")
        tree.put(TWO, ())
        tree.put(ONE, (7,))
        tree.take_out(ONE)
        keep.tree_of(SHORT, "x").put(ONE, ())
        self.assertEqual(ways_in(keep), ((RULE, "x", ONE, (1,)),))

    def test_keys_in_their_order(self):
        rules = (("fault",), ("fault", "fault"), ("say a",), ("say a", "fault"), ("say b",), ("self a",))
        keys = [(rule, own) for rule in rules for own in ("a", "a.b", "a1", "aa", "b")]
        chance = random.Random(4)
        for step in range(10):
            keep = Keep()
            for rule, own in chance.sample(keys, len(keys)):
                keep.put(rule, own, run_of(SAID), ())
            self.assertEqual(keep.kept_keys(), tuple(keys))

    def test_keys_with_a_way_alone(self):
        keep = keep_of((RULE, "x", ONE, ()), (RULE, "x", TWO, ()), (SHORT, "x", run_of(SAID), ()))
        keep.take_out(RULE, "x", ONE)
        self.assertEqual(keep.kept_keys(), ((SHORT, "x"), (RULE, "x")))
        keep.take_out(RULE, "x", TWO)
        self.assertEqual(keep.kept_keys(), ((SHORT, "x"),))
        self.assertEqual(keep.walk(RULE, "x", ()), ((), None))
        keep.take_out(SHORT, "x", run_of(SAID))
        self.assertEqual(keep.kept_keys(), ())
        self.assertEqual(keep.many(), 0)
        keep.put(RULE, "x", run_of(OTHER), ())
        self.assertEqual(ways_in(keep), ((RULE, "x", run_of(OTHER), ()),))

    def test_walk(self):
        keep = keep_of((RULE, "x", ONE, ()), (RULE, "y", run_of(SAID, (Y, None)), ()))
        self.assertEqual(keep.walk(RULE, "x", ()), ((), ("asks", X)))
        self.assertEqual(keep.walk(RULE, "x", ("a", "b")), (((X, "a"),), SAID))
        self.assertEqual(keep.walk(RULE, "x", ("b",)), ((), None))
        self.assertEqual(keep.walk(RULE, "y", (None,)), (((Y, None),), SAID))
        self.assertEqual(keep.walk(SHORT, "x", ()), ((), None))

    def test_copy(self):
        keep = keep_of((RULE, "x", ONE, (1,)), (SHORT, "x", run_of(SAID), ()))
        other = keep.copy()
        self.assertIsInstance(other, Keep)
        self.assertEqual(ways_in(other), ways_in(keep))
        ahead = ways_in(keep)
        other.put(RULE, "x", ONE, (2,))
        other.put(RULE, "x", TWO, ())
        other.put(RULE, "z", TWO, ())
        other.take_out(SHORT, "x", run_of(SAID))
        self.assertEqual(ways_in(keep), ahead)
        behind = ways_in(other)
        keep.take_out(RULE, "x", ONE)
        keep.put(SHORT, "y", run_of(SAID), ())
        self.assertEqual(ways_in(other), behind)


class Refusals(unittest.TestCase):
    def check_refused(self, error, rule, own, run, givers):
        for keep in (Keep(), keep_of((RULE, "x", ONE, (1,)), (SHORT, "y", run_of(SAID), ()))):
            ahead = ways_in(keep)
            with self.assertRaises(error, msg=repr((rule, own, run, givers))):
                keep.put(rule, own, run, givers)
            self.assertEqual(ways_in(keep), ahead)
            self.assertEqual(keep.kept_keys(), tuple(dict.fromkeys(way[:2] for way in ahead)))

    def test_rules_first(self):
        for rule in NO_RULES:
            self.check_refused(BadRule, rule, "x", ONE, ())
            self.check_refused(BadRule, rule, "X", (), (3, 1))

    def test_then_names(self):
        for own in NO_NAMES:
            self.check_refused(BadName, RULE, own, ONE, ())
            self.check_refused(BadName, RULE, own, "no run", (3, 1))

    def test_then_runs_and_givers(self):
        for run in (None, (), run_of(("stuck", "x")), run_of(SAID, (("rule", "x"), RULE)), run_of(SAID, (X, 4))):
            self.check_refused(BadKeep, RULE, "x", run, ())
            self.check_refused(BadKeep, RULE, "fresh", run, ())
        for givers in (None, [1], (2, 1), (1, 1), (-1,), (100,), (True,)):
            self.check_refused(BadKeep, RULE, "x", ONE, givers)
            self.check_refused(BadKeep, RULE, "fresh", ONE, givers)

    def test_then_clashes(self):
        keep = keep_of((RULE, "x", ONE, (1,)))
        for run in (run_of(SAID), run_of(OTHER, (X, "a")), run_of(SAID, (Y, "a")), run_of(SAID, (X, "a"), (Y, "b"))):
            self.assertRaises(Clash, keep.put, RULE, "x", run, (2,))
            self.assertRaises(BadKeep, keep.put, RULE, "x", run, (2, 1))
            self.assertEqual(ways_in(keep), ((RULE, "x", ONE, (1,)),))
            keep.copy().put(RULE, "y", run, ())

    def test_take_out(self):
        keep = keep_of((RULE, "x", ONE, (1,)), (SHORT, "y", run_of(SAID), ()))
        ahead = ways_in(keep)
        for rule, own, run in ((RULE, "x", TWO), (RULE, "y", ONE), (SHORT, "x", ONE), (SHORT, "x", run_of(SAID)),
                               (RULE, "x", run_of(OTHER, (X, "a"))), (RULE, "x", None), (RULE, "z", ONE)):
            self.assertRaises(BadKeep, keep.take_out, rule, own, run)
            self.assertEqual(ways_in(keep), ahead)
        self.assertIsNone(keep.take_out(RULE, "x", ONE))
        self.assertRaises(BadKeep, keep.take_out, RULE, "x", ONE)
        self.assertEqual(ways_in(keep), ahead[:1])


class LaidOn(unittest.TestCase):
    def both(self, one, other):
        """Laid both ways about, which makes no difference; neither keep is changed."""
        ahead = (ways_in(one), ways_in(other))
        both = laid_on(one, other)
        self.assertIsInstance(both, Keep)
        self.assertEqual(ways_in(both), ways_in(laid_on(other, one)))
        self.assertEqual(ways_in(both), ways_in(laid_on(both, one)))
        self.assertEqual((ways_in(one), ways_in(other)), ahead)
        self.assertEqual(clashes(one, other), ())
        return both

    def test_keys_apart_and_together(self):
        one = keep_of((RULE, "x", ONE, (1,)), (RULE, "y", ONE, ()))
        other = keep_of((RULE, "x", TWO, (2,)), (SHORT, "x", run_of(SAID), (3,)))
        self.assertEqual(ways_in(self.both(one, other)), (
            (SHORT, "x", run_of(SAID), (3,)), (RULE, "x", ONE, (1,)), (RULE, "x", TWO, (2,)), (RULE, "y", ONE, ())))

    def test_a_like_way_with_unlike_givers(self):
        one = keep_of((RULE, "x", ONE, (1, 4)))
        other = keep_of((RULE, "x", ONE, (0, 4)))
        self.assertEqual(ways_in(self.both(one, other)), ((RULE, "x", ONE, (0, 1, 4)),))
        self.assertEqual(ways_in(self.both(one, keep_of((RULE, "x", ONE, ())))), ways_in(one))

    def test_on_itself_and_on_nothing(self):
        keep = keep_of((RULE, "x", ONE, (1,)), (RULE, "x", TWO, ()), (SHORT, "y", run_of(SAID), (5,)))
        self.assertEqual(ways_in(self.both(keep, keep)), ways_in(keep))
        self.assertEqual(ways_in(self.both(keep, Keep())), ways_in(keep))
        self.assertEqual(ways_in(self.both(Keep(), Keep())), ())

    def test_a_keep_of_its_own(self):
        one = keep_of((RULE, "x", ONE, ()))
        other = keep_of((SHORT, "x", run_of(SAID), ()))
        both = laid_on(one, other)
        both.put(RULE, "x", TWO, (1,))
        both.put(SHORT, "x", run_of(SAID), (1,))
        self.assertEqual(ways_in(one), ((RULE, "x", ONE, ()),))
        self.assertEqual(ways_in(other), ((SHORT, "x", run_of(SAID), ()),))

    def test_refused_where_trees_clash(self):
        one = keep_of((RULE, "x", ONE, (1,)), (RULE, "y", ONE, (1,)), (SHORT, "x", run_of(SAID), (1,)))
        for run in (run_of(OTHER, (X, "a")), run_of(SAID), run_of(SAID, (Y, "q"))):
            other = keep_of((RULE, "y", run, (2,)), (RULE, "x", TWO, (2,)), (SHORT, "z", run_of(SAID), ()))
            ahead = (ways_in(one), ways_in(other))
            self.assertRaises(Clash, laid_on, one, other)
            self.assertRaises(Clash, laid_on, other, one)
            self.assertEqual((ways_in(one), ways_in(other)), ahead)

    def test_ways_of_machines_never_clash(self):
        chance = random.Random(11)
        for step in range(60):
            keeps = (Keep(), Keep(), Keep())
            for keep in keeps:
                names, project = some_project(chance)
                for name in names:
                    way = way_of(project, name)
                    if way is not None:
                        keep.put(*way, (chance.randrange(100),))
            one, two, three = keeps
            first = self.both(self.both(one, two), three)
            self.assertEqual(ways_in(first), ways_in(self.both(one, self.both(three, two))))


class Clashes(unittest.TestCase):
    def test_none(self):
        self.assertEqual(clashes(Keep(), Keep()), ())
        self.assertEqual(clashes(keep_of((RULE, "x", ONE, ())), keep_of((RULE, "y", run_of(SAID), ()))), ())
        self.assertEqual(clashes(keep_of((RULE, "x", ONE, ())), keep_of((SHORT, "x", run_of(SAID), ()))), ())
        self.assertEqual(clashes(keep_of((RULE, "x", ONE, ())), keep_of((RULE, "x", TWO, ()))), ())

    def test_one(self):
        one = keep_of((RULE, "x", ONE, ()), (RULE, "y", ONE, ()))
        other = keep_of((RULE, "x", TWO, ()), (RULE, "y", run_of(OTHER, (X, "a")), ()))
        self.assertEqual(clashes(one, other), ((RULE, "y", (((X, "a"),), SAID, OTHER)),))
        self.assertEqual(clashes(other, one), ((RULE, "y", (((X, "a"),), OTHER, SAID)),))

    def test_several_in_order_of_keys(self):
        keys = ((SHORT, "b"), (RULE, "a"), (RULE, "b"), (("self a",), "a"))
        one = keep_of(*[(rule, own, ONE, ()) for rule, own in keys[::-1]])
        other = keep_of(*[(rule, own, run_of(SAID), ()) for rule, own in keys])
        self.assertEqual(clashes(one, other),
                         tuple((rule, own, ((), ("asks", X), SAID)) for rule, own in
                               (keys[0], (("self a",), "a"), keys[1], keys[2])))

    def test_the_least_of_each_key(self):
        one = keep_of((RULE, "x", run_of(SAID, (X, "a"), (Y, "b")), ()), (RULE, "x", TWO, ()))
        other = keep_of((RULE, "x", run_of(OTHER, (X, "a"), (Y, "b")), ()), (RULE, "x", run_of(OTHER, (X, "b")), ()))
        self.assertEqual(clashes(one, other), ((RULE, "x", (((X, "b"),), SAID, OTHER)),))


if __name__ == "__main__":
    unittest.main()
