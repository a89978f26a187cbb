"""Promises 9.3 and 9.4: houses that try the ways of others before they go by them."""

import random
import unittest

from askwright.errors import BadName
from askwright.house import House, runs_done
from askwright.keeps import Keep
from askwright.lies import cleared, lie_place, lies_of
from askwright.plain import answer_of
from askwright.project import with_source
from askwright.sharing import put_all
from askwright.wary import WaryHouse
from helpers import (NO_NAMES, asks_for, keep_of, key_and_run, passes_on, project_of, run_of, some_change, some_keep,
                     some_project, ways_in)

# Asks for x, then for what x names, then whether there is y; says what it got.
RULE = ("text b x", "ask b b", "ask a b", "text c y", "has c c", "say a")
X = ("thing", "x")
P = ("thing", "p")
HAS = ("has", "y")


def way(p="v", has="no", x="p", end=None):
    """The honest way of RULE by these answers, or a lie by its end alone."""
    if p is None:
        return run_of(end or ("fault", "lack"), (X, x), (("thing", x), None))
    return run_of(end or ("said", p), (X, x), (("thing", x), p), (HAS, has))


LIE = ("said", "lie")


def kept(*runs):
    return keep_of(*[(RULE, "main", run, (place,)) for place, run in enumerate(runs)])


def wary(keep, **sources):
    project = project_of(**({"main": ("rule", RULE), "x": ("leaf", "p"), "p": ("leaf", "v"), **sources}))
    return WaryHouse(project, keep, 50)


def tried(house):
    return [deed[2:] for deed in house.deeds() if deed[0] == "tried"]


def put_otherwise(house, name, source):
    house.set_project(with_source(house.project(), name, source))


def thrown_runs(house):
    return [lie[2] for lie in house.thrown()]


class HonestWays(unittest.TestCase):
    def test_nothing_kept(self):
        house = wary(Keep())
        self.assertEqual(house.answer("main"), ("value", "v"))
        self.assertEqual(house.deeds(), (("done", "main", 0, 3),))
        self.assertEqual(house.thrown(), ())

    def test_tried_once_and_used(self):
        house = wary(kept(way()))
        self.assertEqual(house.answer("main"), ("value", "v"))
        self.assertEqual(house.deeds(), (("tried", "main", way(), None), ("used", "main", 3)))
        house.set_project(house.project())
        self.assertEqual(house.answer("main"), ("value", "v"))
        self.assertEqual(house.deeds()[2:], (("used", "main", 3),))
        self.assertEqual(house.thrown(), ())
        self.assertEqual(ways_in(house.keep()), ((RULE, "main", way(), (0,)),))

    def test_known_at_all_its_nodes(self):
        house = wary(kept(way("u"), way("v"), way("w")), p=("leaf", "v"))
        house.answer("main")
        self.assertEqual(house.deeds(), (("tried", "main", way("u"), None), ("tried", "main", way("v"), None), ("used", "main", 3)))
        put_otherwise(house, "p", ("leaf", "u"))
        house.answer("main")
        put_otherwise(house, "p", ("leaf", "z"))
        house.answer("main")
        self.assertEqual(house.deeds()[3:], (("used", "main", 3), ("done", "main", 2, 3)))
        put_otherwise(house, "p", ("leaf", "w"))
        house.answer("main")
        self.assertEqual(house.deeds()[5:], (("tried", "main", way("w"), None), ("used", "main", 3)))

    def test_no_further_than_needed(self):
        house = wary(kept(way("v"), way("v", "yes"), way("w"), way("w", x="r")))
        house.answer("main")
        self.assertEqual(tried(house), [(way("v"), None)])
        self.assertEqual(house.keep().many(), 4)

    def test_a_walk_that_falls_where_no_edge_is(self):
        house = wary(kept(way("u"), way("w")))
        self.assertEqual(house.answer("main"), ("value", "v"))
        self.assertEqual(house.deeds(), (("tried", "main", way("u"), None), ("done", "main", 2, 3)))

    def test_its_own_runs_are_trusted(self):
        house = wary(Keep())
        house.answer("main")
        put_otherwise(house, "p", ("leaf", "w"))
        house.answer("main")
        house.set_keep(kept(way("v"), way("w")))
        for tree in ("v", "w"):
            put_otherwise(house, "p", ("leaf", tree))
            self.assertEqual(house.answer("main"), ("value", tree))
        self.assertEqual(tried(house), [])
        self.assertEqual(house.deeds()[2:], (("used", "main", 3), ("used", "main", 3)))

    def test_an_end_without_an_ask(self):
        house = WaryHouse(project_of(a=("rule", ("self a", "say a"))), keep_of((("self a", "say a"), "a", run_of(("said", "a")), ())), 1)
        house.answer("a")
        self.assertEqual(house.deeds(), (("tried", "a", run_of(("said", "a")), None), ("used", "a", 0)))

    def test_stuck_in_the_walk(self):
        house = wary(kept(way()), p=("rule", ("fault",)))
        self.assertEqual(house.answer("main"), ("stuck", "p"))
        self.assertEqual(house.deeds(), (("tried", "main", way(), None), ("done", "p", 0, 0), ("stuck", "main", 1)))


class Lies(unittest.TestCase):
    def check_thrown(self, house, *lies):
        self.assertEqual(house.thrown(), tuple((RULE, "main", run, place, givers) for run, place, givers in lies))
        for run, place, givers in lies:
            self.assertNotIn((RULE, "main", run, givers), ways_in(house.keep()))

    def test_of_the_first_ask(self):
        lie = run_of(LIE, (P, "v"))
        house = wary(kept(lie))
        self.assertEqual(house.answer("main"), ("value", "v"))
        self.assertEqual(house.deeds(), (("tried", "main", lie, 0), ("done", "main", 0, 3)))
        self.check_thrown(house, (lie, 0, (0,)))
        self.assertEqual(ways_in(house.keep()), ((RULE, "main", way(), (50,)),))

    def test_of_an_end_at_the_beginning(self):
        lie = run_of(LIE)
        house = wary(kept(lie))
        self.assertEqual(house.answer("main"), ("value", "v"))
        self.assertEqual(house.deeds(), (("tried", "main", lie, 0), ("done", "main", 0, 3)))
        self.check_thrown(house, (lie, 0, (0,)))

    def test_of_a_later_ask(self):
        lie = run_of(LIE, (X, "p"), (HAS, "no"))
        house = wary(kept(lie))
        self.assertEqual(house.answer("main"), ("value", "v"))
        self.assertEqual(house.deeds(), (("tried", "main", lie, 1), ("done", "main", 0, 3)))
        self.check_thrown(house, (lie, 1, (0,)))

    def test_of_a_later_ask_behind_an_honest_way(self):
        lie = run_of(LIE, (X, "p"), (HAS, "no"))
        house = wary(kept(lie, way(x="aa")))
        self.assertEqual(house.answer("main"), ("value", "v"))
        self.assertEqual(house.deeds(), (("tried", "main", way(x="aa"), None), ("tried", "main", lie, 1), ("done", "main", 1, 3)))
        self.check_thrown(house, (lie, 1, (0,)))

    def test_of_the_end(self):
        lie = way(end=LIE)
        house = wary(kept(way("u"), lie))
        self.assertEqual(house.answer("main"), ("value", "v"))
        self.assertEqual(house.deeds(), (("tried", "main", way("u"), None), ("tried", "main", lie, 3), ("done", "main", 2, 3)))
        self.check_thrown(house, (lie, 3, (1,)))

    def test_in_the_order_of_the_ways_until_one_is_known(self):
        runs = (way("a", end=LIE), way("b", end=LIE), way("c"), way("d", end=LIE), way("v"))
        house = wary(kept(*runs))
        self.assertEqual(house.answer("main"), ("value", "v"))
        self.assertEqual(tried(house), [(runs[0], 3), (runs[1], 3), (runs[2], None), (runs[4], None)])
        self.check_thrown(house, (runs[0], 3, (0,)), (runs[1], 3, (1,)))
        self.assertEqual([run for rule, own, run, givers in ways_in(house.keep())], list(runs[2:]))
        put_otherwise(house, "p", ("leaf", "d"))
        self.assertEqual(house.answer("main"), ("value", "d"))
        self.assertEqual(house.deeds()[-2:], (("tried", "main", runs[3], 3), ("done", "main", 2, 3)))
        self.check_thrown(house, (runs[0], 3, (0,)), (runs[1], 3, (1,)), (runs[3], 3, (3,)))

    def test_lies_alone(self):
        runs = (way(None, end=LIE), way("a", end=LIE), way("v", end=LIE), way("v", "yes", end=LIE), way("w", end=LIE))
        house = wary(kept(*runs))
        self.assertEqual(house.answer("main"), ("value", "v"))
        self.assertEqual([run for run, place in tried(house)], list(runs))
        self.assertEqual(house.deeds()[-1], ("done", "main", 0, 3))
        self.assertEqual(ways_in(house.keep()), ((RULE, "main", way(), (50,)),))

    def test_deeds_where_they_happen(self):
        sub = asks_for("main")
        lie = run_of(("said", "lie"), (("thing", "main"), "q"))
        keep = kept(way("u"), way(end=LIE))
        keep.put(sub[1], "sub", lie, (9,))
        keep.put(passes_on("q")[1], "p", run_of(("said", "v"), (("thing", "q"), "v")), ())
        house = wary(keep, sub=sub, p=passes_on("q"), q=("leaf", "v"))
        self.assertEqual(house.answer("sub"), ("value", ("v",)))
        self.assertEqual(house.deeds(), (
            ("tried", "sub", lie, 1), ("tried", "main", way("u"), None),
            ("tried", "p", run_of(("said", "v"), (("thing", "q"), "v")), None), ("used", "p", 1),
            ("tried", "main", way(end=LIE), 3), ("done", "main", 2, 3), ("done", "sub", 0, 1)))
        self.assertEqual(house.thrown(), ((sub[1], "sub", lie, 1, (9,)), (RULE, "main", way(end=LIE), 3, (1,))))

    def test_givers_as_they_were(self):
        house = wary(keep_of((RULE, "main", way(end=LIE), (3, 8)), (RULE, "main", way("w"), ())))
        house.answer("main")
        self.check_thrown(house, (way(end=LIE), 3, (3, 8)))

    def test_a_lie_that_is_not_met_stays(self):
        lie = way("z", end=LIE)
        house = wary(kept(way(), lie))
        house.answer("main")
        self.assertEqual(tried(house), [(way(), None)])
        self.assertEqual(house.keep().many(), 2)
        self.assertEqual(house.thrown(), ())


class BroughtAgain(unittest.TestCase):
    def test_a_lie_is_thrown_out_and_told_but_not_tried(self):
        keep = kept(way(end=LIE), way("w"))
        house = wary(keep)
        for turn in range(3):
            house.set_keep(keep)
            house.set_project(house.project())
            self.assertEqual(house.answer("main"), ("value", "v"))
        self.assertEqual(tried(house), [(way(end=LIE), 3), (way("w"), None)])
        self.assertEqual(house.thrown(), ((RULE, "main", way(end=LIE), 3, (0,)),) * 3)

    def test_with_the_givers_it_has_then(self):
        house = wary(kept(way(end=LIE)))
        house.answer("main")
        house.set_keep(keep_of((RULE, "main", way(end=LIE), (6, 7))))
        house.set_project(house.project())
        house.answer("main")
        self.assertEqual([lie[4] for lie in house.thrown()], [(0,), (6, 7)])

    def test_only_where_it_would_be_tried(self):
        keep = kept(way("a", end=LIE), way("v"))
        house = wary(keep)
        house.answer("main")
        self.assertEqual(thrown_runs(house), [way("a", end=LIE)])
        house.set_keep(keep)
        house.set_project(house.project())
        house.answer("main")
        # The other way is known from the first node on, so the lie is met by none.
        self.assertEqual(thrown_runs(house), [way("a", end=LIE)])
        self.assertEqual(house.keep().many(), 2)
        put_otherwise(house, "p", ("leaf", "a"))
        self.assertEqual(house.answer("main"), ("value", "a"))
        self.assertEqual(thrown_runs(house), [way("a", end=LIE)] * 2)
        self.assertEqual(len(tried(house)), 2)

    def test_what_it_knows_stays_known_by_another_keep(self):
        house = wary(Keep())
        house.answer("main")
        lie = way("w", end=LIE)
        house.set_keep(kept(lie))
        put_otherwise(house, "p", ("leaf", "w"))
        self.assertEqual(house.answer("main"), ("value", "w"))
        # By its own run it knows the first two asks, so the walk goes there before it must try.
        self.assertEqual(house.deeds()[1:], (("tried", "main", lie, 3), ("done", "main", 2, 3)))

    def test_a_known_way_is_no_pledge_for_other_asks(self):
        house = wary(Keep())
        house.answer("main")
        lie = run_of(LIE, (X, "p"), (HAS, "no"))
        house.set_keep(kept(lie))
        house.set_project(house.project())
        self.assertEqual(house.answer("main"), ("value", "v"))
        self.assertEqual(house.deeds()[1:], (("tried", "main", lie, 1), ("done", "main", 1, 3)))


class AsHouse(unittest.TestCase):
    def test_answers_stay_and_keeps_are_copies(self):
        given = kept(way(end=LIE))
        house = wary(given)
        self.assertEqual(house.answers(("main", "x", "q")), (("value", "v"), ("value", "p"), ("lack",)))
        self.assertEqual(given.many(), 1)
        ahead = house.deeds()
        self.assertIsNone(house.set_keep(given))
        house.answer("main")
        self.assertEqual(house.deeds(), ahead)
        self.assertTrue(house.known("main"))
        house.keep().take_out(RULE, "main", way(end=LIE))
        self.assertEqual(house.keep().many(), 1)
        self.assertIsNone(house.set_project(house.project()))
        self.assertFalse(house.known("main"))

    def test_bad_names(self):
        house = wary(kept(way(end=LIE)))
        for name in NO_NAMES:
            self.assertRaises(BadName, house.answer, name)
            self.assertRaises(BadName, house.answers, ("main", name))
        self.assertEqual(house.deeds(), ())
        self.assertEqual(house.thrown(), ())
        self.assertEqual(house.keep().many(), 1)

    def test_what_has_no_key_and_what_is_made(self):
        house = wary(keep_of((RULE, "m", way(end=LIE), (1,))), m=("made", "r"), r=("leaf", RULE), no=("rule", "no"),
                     ring=("made", "ring"))
        self.assertEqual(house.answers(("m", "no", "ring")), (("value", "v"), ("fault", "rule"), ("stuck", "ring")))
        self.assertEqual(house.deeds(), (("tried", "m", way(end=LIE), 3), ("done", "m", 0, 3), ("none", "no"), ("none", "ring")))
        self.assertEqual(house.thrown(), ((RULE, "m", way(end=LIE), 3, (1,)),))


def after(run, place):
    return run[0][place][0] if place < len(run[0]) else run[1]


class Model:
    """A wary house by the words of the document, with lists of ways that are looked through one by one."""

    def __init__(self, keep):
        self.keep = keep.copy()
        self.honest = []
        self.places = {}
        self.deeds = []
        self.thrown = []
        self.met = []

    def go(self, project, name):
        source = project.source_of(name)
        if name in self.met or source is None or source[0] == "leaf":
            return
        self.met.append(name)
        if source[0] == "made":
            self.go(project, source[1])
        key, (asks, end) = key_and_run(project, name)
        if key is None:
            self.deeds.append(("none", name))
            return
        is_stuck = end[0] == "stuck"
        known = None
        for place in range(len(asks) + 1):
            if known is None and not self.is_known(key, asks[:place]):
                known = place
            if place < len(asks) and asks[place][0][0] == "thing":
                self.go(project, asks[place][0][1])
        if is_stuck:
            self.go(project, end[1])
        if known is None:
            self.deeds.append(("stuck" if is_stuck else "used", name, len(asks)))
            return
        self.deeds.append(("left" if is_stuck else "done", name, known, len(asks)))
        if not is_stuck:
            self.honest.append((key, (asks, end)))
            self.keep.put(*key, (asks, end), (50,))

    def is_known(self, key, asks):
        place = len(asks)
        for run, givers in self.keep.tree_of(*key).ways():
            if run[0][:place] != asks:
                continue
            if any(other == key and one[0][:place] == asks and after(one, place) == after(run, place) for other, one in self.honest):
                return True
            if (key, run) not in self.places:
                self.places[(key, run)] = lie_place(*key, run)
                self.deeds.append(("tried", key[1], run, self.places[(key, run)]))
            if self.places[(key, run)] is None:
                self.honest.append((key, run))
                return True
            self.keep.take_out(*key, run)
            self.thrown.append(key + (run, self.places[(key, run)], givers))
        return False


class Histories(unittest.TestCase):
    def test_many(self):
        chance = random.Random(77)
        self.thrown = 0
        self.honest = 0
        for step in range(250):
            names, project = some_project(chance)
            keep = some_keep(chance, project, names)
            house = WaryHouse(project, keep, 50)
            model = Model(keep)
            plain_house = House(project, cleared(keep), 50)
            lacked = False
            for turn in range(8):
                self.check_answers(chance, names, house, model, plain_house, lacked)
                lacked = self.next_turn(chance, names, (house, plain_house), model) or lacked
            self.check_tries(house)
        self.assertGreater(self.thrown, 200)
        self.assertGreater(self.honest, 100)

    def next_turn(self, chance, names, houses, model):
        """Another project, and perhaps another keep; whether that one lacks what was there."""
        house, plain_house = houses
        if chance.random() < 0.7:
            project = some_change(chance, house.project(), names)
            house.set_project(project)
            plain_house.set_project(project)
            model.met = []
        if chance.random() < 0.6:
            return False
        fresh = some_keep(chance, house.project(), names)
        lacking = chance.random() < 0.3
        keep = fresh if lacking else put_all(house.keep(), fresh)[0]
        house.set_keep(keep)
        plain_house.set_keep(cleared(keep))
        model.keep = keep.copy()
        return lacking

    def check_answers(self, chance, names, house, model, plain_house, lacked):
        done = runs_done(plain_house.deeds()) - runs_done(house.deeds())
        gone = (len(house.deeds()), len(plain_house.deeds()))
        for name in chance.sample(names, chance.randrange(1, len(names) + 1)):
            self.assertEqual(house.answer(name), answer_of(house.project(), name))
            self.assertEqual(plain_house.answer(name), answer_of(house.project(), name))
            model.go(house.project(), name)
        self.assertEqual(house.deeds(), tuple(model.deeds))
        self.assertEqual(house.thrown(), tuple(model.thrown))
        self.assertEqual(ways_in(house.keep()), ways_in(model.keep))
        self.assertEqual(runs_done(plain_house.deeds()) - runs_done(house.deeds()), done)
        self.assertEqual(ways_in(cleared(house.keep())), ways_in(plain_house.keep()))
        if not lacked:
            self.assertEqual(tuple(deed for deed in house.deeds()[gone[0]:] if deed[0] != "tried"), plain_house.deeds()[gone[1]:])

    def check_tries(self, house):
        runs = [(deed[1], deed[2]) for deed in house.deeds() if deed[0] == "tried"]
        for rule, own, run, place, givers in house.thrown():
            self.assertEqual(lie_place(rule, own, run), place)
            self.assertIsNotNone(place)
            self.assertIn((own, run), runs)
        self.thrown += len(house.thrown())
        self.honest += len([deed for deed in house.deeds() if deed[0] == "tried" and deed[3] is None])

    def test_houses_of_honest_keeps_throw_nothing_out(self):
        chance = random.Random(78)
        for step in range(50):
            names, project = some_project(chance)
            keep = cleared(some_keep(chance, project, names))
            self.assertEqual(lies_of(keep), ())
            house = WaryHouse(project, keep, 50)
            house.answers(tuple(names))
            self.assertEqual(house.thrown(), ())


if __name__ == "__main__":
    unittest.main()
