"""Promises 6.1, 6.2 and 6.4: trees of asks, walks, clashes and givers."""

import random
import unittest

from askwright.asktree import AskTree, clash_of, first_clash
from askwright.errors import BadKeep, Clash
from askwright.machine import Machine
from askwright.trees import is_ahead
from helpers import run_of, runs_in

X = ("thing", "x")
Y = ("thing", "y")
HAS = ("has", "x")
NAMES = ("names", "")
SAID = ("said", "v")
OTHER_KINDS = (None, True, 4, "", "x", [], {}, set(), object())


def tree_with(*runs):
    tree = AskTree()
    for run in runs:
        tree.put(run, ())
    return tree


class Put(unittest.TestCase):
    def test_nothing_kept(self):
        self.assertEqual(AskTree().ways(), ())

    def test_one_run(self):
        for run in (run_of(SAID), run_of(("fault", "told")), run_of(SAID, (X, "a")), run_of(SAID, (X, "a"), (HAS, "no"))):
            tree = AskTree()
            self.assertIsNone(tree.put(run, (3,)))
            self.assertEqual(tree.ways(), ((run, (3,)),))

    def test_in_the_order_of_answers(self):
        answers = (None, "", "a", "ab", "b", (), ("",), ("a",), ("a", "b"), ((),))
        runs = [run_of(("said", "end"), (X, answer)) for answer in answers]
        chance = random.Random(3)
        for step in range(20):
            mixed = list(runs)
            chance.shuffle(mixed)
            self.assertEqual(runs_in(tree_with(*mixed)), tuple(runs))

    def test_place_by_place(self):
        runs = (run_of(("fault", "lack"), (X, None)), run_of(SAID, (X, "a"), (Y, None)), run_of(SAID, (X, "a"), (Y, "z")),
                run_of(SAID, (X, "a"), (Y, ())), run_of(SAID, (X, "b"), (HAS, "no")), run_of(SAID, (X, "b"), (HAS, "yes")),
                run_of(SAID, (X, "c")), run_of(SAID, (X, ("a",)), (NAMES, ())), run_of(SAID, (X, ("a",)), (NAMES, ("x",))))
        self.assertEqual(runs_in(tree_with(*runs)), runs)
        self.assertEqual(runs_in(tree_with(*runs[::-1])), runs)

    def test_the_same_ask_may_come_again(self):
        runs = (run_of(SAID, (X, "a"), (X, "a")), run_of(SAID, (X, "a"), (X, "b")))
        self.assertEqual(runs_in(tree_with(*runs)), runs)

    def test_each_end(self):
        for end in [("said", tree) for tree in ("", "x", (), ("a", ("b",)))] + \
                [("fault", word) for word in ("told", "kind", "name", "lack", "big", "silent", "long")]:
            self.assertEqual(runs_in(tree_with(run_of(end, (X, "a")))), (run_of(end, (X, "a")),))

    def test_long_ways(self):
        asks = tuple((X, str(number)) for number in range(2000))
        tree = tree_with((asks, SAID))
        tree.put((asks[:1500] + ((X, "other"),), SAID), (1,))
        self.assertEqual(len(tree.ways()), 2)
        self.assertEqual(tree.copy().ways(), tree.ways())
        self.assertEqual(tree.walk(tuple(answer for ask, answer in asks)), (asks, SAID))
        self.assertEqual(clash_of((asks, SAID), (asks, ("said", "w"))), (asks, SAID, ("said", "w")))
        tree.take_out((asks, SAID))
        self.assertEqual(len(tree.ways()), 1)


class NoRuns(unittest.TestCase):
    def check_refused(self, run, givers):
        kept = run_of(SAID, (X, "kept"))
        for tree in (AskTree(), tree_with(kept)):
            ahead = tree.ways()
            with self.assertRaises(BadKeep, msg=repr((run, givers))):
                tree.put(run, givers)
            self.assertEqual(tree.ways(), ahead)

    def test_things_of_other_kinds(self):
        for value in OTHER_KINDS + ((), (SAID,), ((), SAID, ()), [(), SAID], ([], SAID), ("", SAID), (None, SAID),
                                    (((X, "a"), None), SAID), (((X,),), SAID), (((X, "a", "b"),), SAID),
                                    (([X, "a"],), SAID), (("ab",), SAID)):
            self.check_refused(value, ())

    def test_asks(self):
        for ask in OTHER_KINDS + ((), ("thing",), ("thing", "x", "y"), ["thing", "x"], ("rule", "x"), ("asks", "x"),
                                  ("Thing", "x"), ("thing", ""), ("thing", "X"), ("thing", "x" * 25), ("thing", ("x",)),
                                  ("has", ""), ("has", "a b"), ("has", None), ("names", None), ("names", ()),
                                  ("names", "%"), ("names", "a\n"), (None, "x"), (["thing"], "x"), ("said", "x")):
            for answer in ("x", "yes", ()):
                self.check_refused(run_of(SAID, (ask, answer)), ())
                self.check_refused(run_of(SAID, (X, "a"), (ask, answer)), ())

    def test_answers(self):
        no_trees = (True, 4, [], {}, "%", "a\n", "x" * 301, ("",) * 41, (4,), ("a", None))
        for ask, others in ((X, ()), (HAS, (None, "", "Yes", (), ("yes",), "maybe")),
                            (NAMES, (None, "", "x", ("X",), ("x", ""), (("x",),)))):
            for answer in no_trees + others:
                self.check_refused(run_of(SAID, (ask, answer)), ())

    def test_any_row_of_names(self):
        for row in ((), ("x",), ("b", "a"), ("a", "a"), ("n",) * 40):
            tree_with(run_of(SAID, (("names", "zz"), row)))
        tree_with(run_of(SAID, (("names", "any Text!"), ())))

    def test_ends(self):
        for end in OTHER_KINDS + ((), ("said",), ("said", None), ("said", 4), ("said", "%"), ("said", "a", "b"),
                                  ("fault",), ("fault", ""), ("fault", "rule"), ("fault", "Told"), ("fault", None),
                                  ("fault", ("told",)), ("stuck", "x"), ("asks", X), ("value", "x"), ["said", "v"],
                                  ("lack",), ("fault", ["told"]), ("told", "told"), ("stuck", "told")):
            self.check_refused(run_of(end), ())
            self.check_refused(run_of(end, (X, "a")), ())

    def test_givers(self):
        for givers in OTHER_KINDS + ((-1,), (100,), (1, 1), (2, 1), (True,), (False, 1), (0, True), ("1",), (None,),
                                     (1, 2, 2), [1], (0, 10 ** 20), ((1,),)):
            self.check_refused(run_of(SAID), givers)
            self.check_refused(run_of(SAID, (X, "kept")), givers)

    def test_bad_keep_ahead_of_clash(self):
        tree = tree_with(run_of(SAID))
        for run, givers in ((run_of(("fault", "rule")), ()), (run_of(SAID, (X, 4)), ()), (run_of(("said", "w")), (2, 1))):
            self.assertRaises(BadKeep, tree.put, run, givers)
        self.assertRaises(Clash, tree.put, run_of(("said", "w")), (1, 2))


CLASHES = (
    (run_of(SAID), run_of(("said", "w")), ((), SAID, ("said", "w"))),
    (run_of(SAID), run_of(("fault", "told")), ((), SAID, ("fault", "told"))),
    (run_of(("fault", "big")), run_of(("fault", "told")), ((), ("fault", "big"), ("fault", "told"))),
    (run_of(SAID), run_of(SAID, (X, "a")), ((), SAID, ("asks", X))),
    (run_of(SAID, (X, "a")), run_of(SAID, (Y, "a")), ((), ("asks", X), ("asks", Y))),
    (run_of(SAID, (X, "yes")), run_of(SAID, (HAS, "yes")), ((), ("asks", X), ("asks", HAS))),
    (run_of(SAID, (X, "a")), run_of(("said", "w"), (X, "a")), (((X, "a"),), SAID, ("said", "w"))),
    (run_of(SAID, (X, "a"), (Y, "b")), run_of(SAID, (X, "a")), (((X, "a"),), ("asks", Y), SAID)),
    (run_of(SAID, (X, None), (Y, "b")), run_of(SAID, (X, None), (HAS, "no")), (((X, None),), ("asks", Y), ("asks", HAS))),
    (run_of(SAID, (X, "a"), (HAS, "no")), run_of(("said", "w"), (X, "a"), (HAS, "no")),
     (((X, "a"), (HAS, "no")), SAID, ("said", "w"))),
)


class Clashes(unittest.TestCase):
    def test_each_kind_both_ways_about(self):
        for one, other, (asks, left, right) in CLASHES:
            self.assertEqual(clash_of(one, other), (asks, left, right))
            self.assertEqual(clash_of(other, one), (asks, right, left))
            self.assertEqual(first_clash(tree_with(one), tree_with(other)), (asks, left, right))
            self.assertEqual(first_clash(tree_with(other), tree_with(one)), (asks, right, left))

    def test_put_is_refused_and_the_ways_stay(self):
        for pair in CLASHES:
            for one, other in (pair[:2], pair[1::-1]):
                tree = AskTree()
                tree.put(one, (2,))
                with self.assertRaises(Clash):
                    tree.put(other, (1, 3))
                self.assertEqual(tree.ways(), ((one, (2,)),))

    def test_a_refused_put_leaves_nothing_behind(self):
        kept = (run_of(SAID, (X, "a"), (Y, "b")), run_of(SAID, (X, "b")))
        tree = tree_with(*kept)
        for run in (run_of(SAID, (X, "a"), (HAS, "no")), run_of(SAID, (X, "b"), (Y, "c")), run_of(SAID, (X, "a"))):
            self.assertRaises(Clash, tree.put, run, ())
        self.assertEqual(runs_in(tree), kept)
        self.assertEqual(tree.walk(("a", "b")), (kept[0][0], SAID))

    def test_no_clash(self):
        run = run_of(SAID, (X, "a"), (Y, "b"))
        for other in (run, run_of(SAID, (X, "b")), run_of(("fault", "lack"), (X, None)), run_of(SAID, (X, "a"), (Y, "c")),
                      run_of(("said", "w"), (X, ("a",)), (HAS, "no"), (HAS, "yes"))):
            self.assertIsNone(clash_of(run, other))
            self.assertIsNone(clash_of(other, run))
            self.assertIsNone(first_clash(tree_with(run), tree_with(other)))
        self.assertIsNone(first_clash(AskTree(), tree_with(run)))
        self.assertIsNone(first_clash(tree_with(run), AskTree()))
        self.assertIsNone(first_clash(AskTree(), AskTree()))

    def test_by_the_fewest_answers(self):
        one = tree_with(run_of(SAID, (X, "a"), (Y, "b")), run_of(SAID, (X, "c")))
        other = tree_with(run_of(("said", "w"), (X, "a"), (Y, "b")), run_of(("said", "w"), (X, "c")))
        self.assertEqual(first_clash(one, other), (((X, "c"),), SAID, ("said", "w")))
        self.assertEqual(first_clash(other, one), (((X, "c"),), ("said", "w"), SAID))

    def test_then_by_the_least_answers(self):
        answers = ("b", None, (), "a", ("a",), "")
        for left_out in ((), (None,), (None, ""), (None, "", "a"), (None, "", "a", "b"), (None, "", "a", "b", ())):
            used = [answer for answer in answers if answer not in left_out]
            one = tree_with(*[run_of(SAID, (X, answer)) for answer in answers])
            other = tree_with(*[run_of(("said", "w"), (X, answer)) for answer in used])
            least = [answer for answer in (None, "", "a", "b", (), ("a",)) if answer in used][0]
            self.assertEqual(first_clash(one, other), (((X, least),), SAID, ("said", "w")))

    def test_place_by_place(self):
        one = tree_with(run_of(SAID, (X, "a"), (Y, ())), run_of(SAID, (X, "b"), (Y, None)))
        other = tree_with(run_of(("said", "w"), (X, "a"), (Y, ())), run_of(("said", "w"), (X, "b"), (Y, None)))
        self.assertEqual(first_clash(one, other), (((X, "a"), (Y, ())), SAID, ("said", "w")))


class Walks(unittest.TestCase):
    TREE = tree_with(run_of(("fault", "lack"), (X, None)), run_of(SAID, (X, "a"), (HAS, "no")),
                     run_of(("said", ()), (X, "a"), (HAS, "yes"), (Y, "z")))

    def test_to_a_node(self):
        self.assertEqual(self.TREE.walk(()), ((), ("asks", X)))
        self.assertEqual(self.TREE.walk(("a",)), (((X, "a"),), ("asks", HAS)))
        self.assertEqual(self.TREE.walk(("a", "yes")), (((X, "a"), (HAS, "yes")), ("asks", Y)))

    def test_to_an_end(self):
        self.assertEqual(self.TREE.walk((None,)), (((X, None),), ("fault", "lack")))
        self.assertEqual(self.TREE.walk(("a", "no")), (((X, "a"), (HAS, "no")), SAID))
        self.assertEqual(self.TREE.walk(("a", "yes", "z")), (((X, "a"), (HAS, "yes"), (Y, "z")), ("said", ())))

    def test_answers_left_behind_an_end(self):
        self.assertEqual(self.TREE.walk((None, "x", "y")), (((X, None),), ("fault", "lack")))
        self.assertEqual(self.TREE.walk(("a", "no", None)), (((X, "a"), (HAS, "no")), SAID))
        self.assertEqual(tree_with(run_of(SAID)).walk(("a", "b")), ((), SAID))
        self.assertEqual(tree_with(run_of(SAID)).walk(()), ((), SAID))

    def test_to_where_it_falls(self):
        self.assertEqual(self.TREE.walk(("b",)), ((), None))
        self.assertEqual(self.TREE.walk(("b", "no")), ((), None))
        self.assertEqual(self.TREE.walk(((),)), ((), None))
        self.assertEqual(self.TREE.walk(("a", "yes", None)), (((X, "a"), (HAS, "yes")), None))
        self.assertEqual(self.TREE.walk(("a", "yes", None, "z")), (((X, "a"), (HAS, "yes")), None))

    def test_of_nothing_kept(self):
        for answers in ((), ("a",), (None, "b")):
            self.assertEqual(AskTree().walk(answers), ((), None))

    def test_a_walk_changes_nothing(self):
        ahead = self.TREE.ways()
        self.TREE.walk(("q",))
        self.assertEqual(self.TREE.ways(), ahead)


class Givers(unittest.TestCase):
    RUN = run_of(SAID, (X, "a"))

    def test_put_together(self):
        for one, other, both in (((), (), ()), ((1,), (), (1,)), ((), (0, 99), (0, 99)), ((1, 3), (2, 3, 5), (1, 2, 3, 5)),
                                 ((9,), (10,), (9, 10)), ((10,), (9,), (9, 10)), ((4,), (4,), (4,))):
            tree = AskTree()
            tree.put(self.RUN, one)
            tree.put(self.RUN, other)
            self.assertEqual(tree.ways(), ((self.RUN, both),))

    def test_each_way_has_its_own(self):
        tree = AskTree()
        other = run_of(SAID, (X, "b"))
        tree.put(self.RUN, (1,))
        tree.put(other, (2,))
        tree.put(self.RUN, (3,))
        self.assertEqual(tree.ways(), ((self.RUN, (1, 3)), (other, (2,))))

    def test_all_givers(self):
        tree = AskTree()
        tree.put(self.RUN, tuple(range(100)))
        self.assertEqual(tree.ways(), ((self.RUN, tuple(range(100))),))


class TakeOut(unittest.TestCase):
    RUNS = (run_of(("fault", "lack"), (X, None)), run_of(SAID, (X, "a"), (HAS, "no"), (Y, "b")),
            run_of(SAID, (X, "a"), (HAS, "no"), (Y, "c")), run_of(SAID, (X, "a"), (HAS, "yes")))

    def test_each_way(self):
        for run in self.RUNS:
            tree = tree_with(*self.RUNS)
            self.assertIsNone(tree.take_out(run))
            self.assertEqual(runs_in(tree), tuple(other for other in self.RUNS if other != run))
            self.assertRaises(BadKeep, tree.take_out, run)
            tree.put(run, (1,))
            self.assertEqual(runs_in(tree), self.RUNS)

    def test_all_in_any_order(self):
        chance = random.Random(8)
        for step in range(30):
            tree = tree_with(*self.RUNS)
            left = list(self.RUNS)
            while left:
                run = left.pop(chance.randrange(len(left)))
                tree.take_out(run)
                self.assertEqual(runs_in(tree), tuple(left))
            self.assertEqual(tree.walk(()), ((), None))
            tree.put(run_of(SAID), ())

    def test_another_end_fits_behind_it(self):
        tree = tree_with(*self.RUNS)
        fresh = run_of(("said", "w"), (X, "a"), (HAS, "yes"))
        self.assertRaises(Clash, tree.put, fresh, ())
        tree.take_out(self.RUNS[3])
        tree.put(fresh, ())
        tree.take_out(self.RUNS[1])
        self.assertRaises(Clash, tree.put, run_of(SAID, (X, "a"), (HAS, "no")), ())
        tree.take_out(self.RUNS[2])
        tree.put(run_of(SAID, (X, "a"), (HAS, "no")), ())
        self.assertEqual(tree.walk(("a", "no")), (((X, "a"), (HAS, "no")), SAID))

    def test_the_walk_falls_where_it_was(self):
        tree = tree_with(*self.RUNS)
        tree.take_out(self.RUNS[1])
        self.assertEqual(tree.walk(("a", "no", "b")), (((X, "a"), (HAS, "no")), None))
        tree.take_out(self.RUNS[2])
        self.assertEqual(tree.walk(("a", "no", "b")), (((X, "a"),), None))

    def test_refused(self):
        tree = tree_with(*self.RUNS)
        for run in (run_of(SAID), run_of(SAID, (X, "b")), run_of(SAID, (X, "a")), run_of(("said", "w"), (X, "a"), (HAS, "yes")),
                    run_of(SAID, (X, "a"), (Y, "yes")), run_of(SAID, (Y, "a"), (HAS, "yes")),
                    run_of(SAID, (X, "a"), (HAS, "yes"), (Y, "b")), run_of(("fault", "lack"), (X, None), (Y, None)),
                    run_of(("fault", "told"), (X, None))):
            self.assertRaises(BadKeep, tree.take_out, run)
            self.assertRaises(BadKeep, AskTree().take_out, run)
        for value in OTHER_KINDS:
            self.assertRaises(BadKeep, tree.take_out, value)
        self.assertEqual(runs_in(tree), self.RUNS)


class Copies(unittest.TestCase):
    def test_neither_changes_the_other(self):
        tree = AskTree()
        tree.put(TakeOut.RUNS[0], (1,))
        tree.put(TakeOut.RUNS[1], (2,))
        ahead = tree.ways()
        other = tree.copy()
        self.assertIsInstance(other, AskTree)
        self.assertEqual(other.ways(), ahead)
        other.put(TakeOut.RUNS[1], (5,))
        other.put(TakeOut.RUNS[2], ())
        other.take_out(TakeOut.RUNS[0])
        self.assertEqual(tree.ways(), ahead)
        behind = other.ways()
        self.assertEqual(behind, ((TakeOut.RUNS[1], (2, 5)), (TakeOut.RUNS[2], ())))
        tree.take_out(TakeOut.RUNS[1])
        self.assertEqual(other.ways(), behind)

    def test_of_nothing(self):
        other = AskTree().copy()
        other.put(run_of(SAID), ())
        self.assertEqual(runs_in(other), (run_of(SAID),))
        self.assertEqual(AskTree().ways(), ())


RULE = ("text b x", "ask a b", "none a 5", "ask c a", "has d b", "like a c 9", "names e d", "say e", "say d")


def some_run(chance, own):
    machine = Machine(RULE, own)
    while machine.now()[0] == "asks":
        kind = machine.now()[1][0]
        if kind == "thing":
            machine.answer(chance.choice((None, "", "x", "y", "z", (), ("x",))))
        elif kind == "has":
            machine.answer(chance.choice(("yes", "no")))
        else:
            machine.answer(chance.choice(((), ("x",), ("x", "y"))))
    return (machine.asked(), machine.now())


def some_lie(chance, run):
    asks, end = run
    place = chance.randrange(len(asks) + 1)
    return (asks[:place], chance.choice((("said", "lie"), ("fault", "told"), end)))


def answers_ahead(one, other):
    """Whether one tuple of answers stands ahead of another one of the same length."""
    for left, right in zip(one, other):
        if left != right:
            return left is None or (right is not None and is_ahead(left, right))
    return False


def least_clash(tree, other):
    """The clash to be told, by a look at every pair of ways."""
    found = None
    for run in runs_in(tree):
        for run_there in runs_in(other):
            clash = clash_of(run, run_there)
            if clash is not None and (found is None or is_lesser(clash, found)):
                found = clash
    return found


def is_lesser(clash, other):
    if len(clash[0]) != len(other[0]):
        return len(clash[0]) < len(other[0])
    return answers_ahead([answer for ask, answer in clash[0]], [answer for ask, answer in other[0]])


class ManyTrees(unittest.TestCase):
    def test_a_machines_runs_never_clash(self):
        chance = random.Random(1)
        tree = AskTree()
        runs = {some_run(chance, "own") for step in range(400)}
        for run in sorted(runs, key=repr):
            tree.put(run, (1,))
            self.assertEqual(tree.walk(tuple(answer for ask, answer in run[0])), run)
        self.assertEqual(set(runs_in(tree)), runs)
        for one, other in zip(runs_in(tree), runs_in(tree)[1:]):
            self.assertTrue(answers_ahead([answer for ask, answer in one[0]], [answer for ask, answer in other[0]]))

    def test_the_first_clash_is_the_least(self):
        chance = random.Random(2)
        clashed = 0
        for step in range(300):
            one, other = self.trees_with_lies(chance)
            clash = first_clash(one, other)
            self.assertEqual(clash, least_clash(one, other))
            turned = None if clash is None else (clash[0], clash[2], clash[1])
            self.assertEqual(first_clash(other, one), turned)
            clashed += clash is not None
        self.assertTrue(50 < clashed < 290)

    def trees_with_lies(self, chance):
        trees = (AskTree(), AskTree())
        for tree in trees:
            for step in range(5):
                run = some_run(chance, "own")
                if chance.random() < 0.2:
                    run = some_lie(chance, run)
                self.put_if_it_fits(tree, run)
        return trees

    def put_if_it_fits(self, tree, run):
        clashing = any(clash_of(run, other) is not None for other in runs_in(tree))
        ahead = tree.ways()
        if clashing:
            self.assertRaises(Clash, tree.put, run, ())
            self.assertEqual(tree.ways(), ahead)
        else:
            tree.put(run, ())


if __name__ == "__main__":
    unittest.main()
