"""Promises 10.1 to 10.4 of streets: houses that take one another's keeps."""

import random
import unittest

from askwright.errors import BadName, NoThing
from askwright.house import House, runs_done, way_of
from askwright.keeps import Keep, laid_on
from askwright.lies import liars, lies_of
from askwright.plain import answer_of
from askwright.project import with_source
from askwright.street import Street
from helpers import NO_NAMES, asks_for, keep_of, passes_on, project_of, run_of, some_change, some_keep, some_project, ways_in

SUB = passes_on("x")
MAIN = asks_for("sub", "x")
PROJECT = project_of(x=("leaf", "v"), sub=SUB, main=MAIN)
OTHER = with_source(PROJECT, "x", ("leaf", "w"))
DONE = (("done", "sub", 0, 1), ("done", "main", 0, 2))
USED = (("used", "sub", 1), ("used", "main", 2))
LIE = run_of(("said", "lie"), (("thing", "x"), "v"))


def street_of(count, wary=False):
    return Street((PROJECT,) * count, (wary,) * count)


def givers_in(keep):
    return [(own, givers) for rule, own, run, givers in ways_in(keep)]


class Deeds(unittest.TestCase):
    def test_empty_keeps_at_first(self):
        street = Street((PROJECT, OTHER), (False, True))
        for i in (0, 1):
            self.assertIsInstance(street.keep_of(i), Keep)
            self.assertEqual(street.keep_of(i).many(), 0)
            self.assertEqual(street.deeds_of(i), ())
        self.assertEqual(street.done_in_all(), 0)
        self.assertEqual(Street((), ()).done_in_all(), 0)

    def test_build(self):
        street = Street((PROJECT, OTHER), (False, True))
        self.assertEqual(street.build(0, ("main", "x", "q")), (("value", ("v", "v")), ("value", "v"), ("lack",)))
        self.assertEqual(street.build(1, ("main",)), (("value", ("w", "w")),))
        self.assertEqual(street.build(1, ()), ())
        self.assertEqual(street.deeds_of(0), DONE)
        self.assertEqual(street.deeds_of(1), DONE)
        self.assertEqual(givers_in(street.keep_of(0)), [("main", (0,)), ("sub", (0,))])
        self.assertEqual(givers_in(street.keep_of(1)), [("main", (1,)), ("sub", (1,))])
        self.assertEqual(street.done_in_all(), 4)

    def test_give(self):
        street = street_of(2)
        street.build(0, ("main",))
        self.assertIsNone(street.give(0, OTHER))
        self.assertEqual(street.build(0, ("main",)), (("value", ("w", "w")),))
        self.assertEqual(street.build(1, ("main",)), (("value", ("v", "v")),))
        self.assertIsNone(street.give(0, PROJECT))
        street.build(0, ("main",))
        self.assertEqual(street.deeds_of(0), DONE + (("done", "sub", 1, 1), ("done", "main", 1, 2)) + USED)
        self.assertEqual(street.done_in_all(), 6)

    def test_take(self):
        street = street_of(2)
        street.build(0, ("main",))
        self.assertEqual(street.take(1, 0), ())
        self.assertEqual(ways_in(street.keep_of(1)), ways_in(street.keep_of(0)))
        self.assertEqual(street.build(1, ("main",)), (("value", ("v", "v")),))
        self.assertEqual(street.deeds_of(1), USED)
        self.assertEqual(givers_in(street.keep_of(1)), [("main", (0,)), ("sub", (0,))])
        self.assertEqual(street.done_in_all(), 2)

    def test_take_by_a_wary_house(self):
        street = street_of(2, True)
        street.build(0, ("main",))
        street.take(1, 0)
        street.build(1, ("main",))
        self.assertEqual([deed for deed in street.deeds_of(1) if deed[0] != "tried"], list(USED))
        self.assertEqual([deed[1] for deed in street.deeds_of(1) if deed[0] == "tried"], ["main", "sub"])

    def test_take_of_itself(self):
        street = Street((PROJECT, PROJECT), (False, True))
        for i in (0, 1):
            street.build(i, ("main",))
            ahead = (ways_in(street.keep_of(i)), street.deeds_of(i))
            self.assertEqual(street.take(i, i), ())
            self.assertEqual((ways_in(street.keep_of(i)), street.deeds_of(i)), ahead)

    def test_givers_besides(self):
        street = street_of(3)
        for i in (0, 2):
            street.build(i, ("sub",))
        street.take(2, 0)
        self.assertEqual(givers_in(street.keep_of(2)), [("sub", (0, 2))])
        street.take(1, 2)
        self.assertEqual(givers_in(street.keep_of(1)), [("sub", (0, 2))])
        street.build(1, ("sub",))
        self.assertEqual(givers_in(street.keep_of(1)), [("sub", (0, 2))])
        self.assertEqual(givers_in(street.keep_of(0)), [("sub", (0,))])

    def test_answers_stay_when_a_keep_is_taken(self):
        street = street_of(2)
        street.build(0, ("main",))
        street.build(1, ("main",))
        street.take(1, 0)
        street.build(1, ("main",))
        self.assertEqual(street.deeds_of(1), DONE)

    def test_lay(self):
        street = street_of(1)
        keep = keep_of((SUB[1], "sub", way_of(PROJECT, "sub")[2], (30, 40)))
        self.assertEqual(street.lay(0, keep), ())
        keep.put(SUB[1], "other", LIE, ())
        self.assertEqual(givers_in(street.keep_of(0)), [("sub", (30, 40))])
        street.build(0, ("main",))
        self.assertEqual(street.deeds_of(0), (("used", "sub", 1), ("done", "main", 0, 2)))
        self.assertEqual(keep.many(), 2)
        self.assertEqual(givers_in(street.keep_of(0)), [("main", (0,)), ("sub", (30, 40))])

    def test_what_clashes_is_left_and_told(self):
        for wary in (False, True):
            street = street_of(2, wary)
            street.build(0, ("sub",))
            honest = run_of(("said", "w"), (("thing", "x"), "w"))
            lies = keep_of((SUB[1], "sub", LIE, (9,)), (SUB[1], "sub", honest, (9,)))
            ahead = ways_in(street.keep_of(0))
            self.assertEqual(street.lay(0, lies), ((SUB[1], "sub", LIE),))
            self.assertEqual(ways_in(street.keep_of(0)), ahead + ((SUB[1], "sub", honest, (9,)),))
            self.assertEqual(street.lay(1, lies), ())
            self.assertEqual(street.take(1, 0), ((SUB[1], "sub", way_of(PROJECT, "sub")[2]),))
            self.assertEqual(street.take(0, 1), ((SUB[1], "sub", LIE),))

    def test_keeps_told_are_copies(self):
        street = street_of(1)
        street.build(0, ("sub",))
        street.keep_of(0).take_out(*way_of(PROJECT, "sub"))
        self.assertEqual(street.keep_of(0).many(), 1)

    def test_wary_houses_by_their_places(self):
        street = Street((PROJECT,) * 3, (False, True, False))
        for i in range(3):
            street.lay(i, keep_of((*way_of(PROJECT, "sub"), ())))
            street.build(i, ("sub",))
        self.assertEqual([len(street.deeds_of(i)) for i in range(3)], [1, 2, 1])

    def test_more_houses_than_givers(self):
        street = street_of(102)
        self.assertEqual(street.build(101, ("sub",)), (("value", "v"),))
        self.assertEqual(street.take(0, 101), ())
        self.assertEqual(street.done_in_all(), 1)


class Refusals(unittest.TestCase):
    def setUp(self):
        self.street = Street((PROJECT, PROJECT), (False, True))
        self.street.build(0, ("sub",))
        self.street.lay(1, keep_of((SUB[1], "sub", LIE, (3,))))

    def state(self):
        return [(ways_in(self.street.keep_of(i)), self.street.deeds_of(i)) for i in (0, 1)] + [self.street.done_in_all()]

    def test_no_such_house(self):
        ahead = self.state()
        street = self.street
        for i in (-1, -2, 2, 3, 10 ** 29, -10 ** 29):
            for deed, more in ((street.build, (("main",),)), (street.give, (OTHER,)), (street.take, (0,)), (street.take, (i,)),
                               (street.take_trusted, (0, (0,))), (street.take_shunned, (0, ())), (street.lay, (Keep(),)),
                               (street.keep_of, ()), (street.deeds_of, ())):
                self.assertRaises(NoThing, deed, i, *more)
            for j in (0, 1):
                self.assertRaises(NoThing, street.take, j, i)
                self.assertRaises(NoThing, street.take_trusted, j, i, (3,))
                self.assertRaises(NoThing, street.take_shunned, j, i, (3,))
        self.assertEqual(self.state(), ahead)
        self.assertRaises(NoThing, Street((), ()).keep_of, 0)

    def test_bad_names_behind_it(self):
        ahead = self.state()
        for name in NO_NAMES:
            self.assertRaises(NoThing, self.street.build, 2, (name,))
            for i in (0, 1):
                self.assertRaises(BadName, self.street.build, i, ("main", name))
        self.assertEqual(self.state(), ahead)


class Trust(unittest.TestCase):
    def setUp(self):
        self.street = street_of(3)
        self.honest = run_of(("said", "u"), (("thing", "x"), "u"))
        self.bare = run_of(("said", "t"), (("thing", "x"), "t"))
        self.keep = keep_of((SUB[1], "sub", LIE, (5,)), (SUB[1], "sub", self.honest, (5, 6)), (SUB[1], "sub", self.bare, ()),
                            (SUB[1], "other", LIE, (6,)))
        self.street.lay(0, self.keep)

    def taken(self, i):
        return [(own, run) for rule, own, run, givers in ways_in(self.street.keep_of(i))]

    def test_trusted(self):
        self.assertEqual(self.street.take_trusted(1, 0, ()), ())
        self.assertEqual(self.taken(1), [])
        self.assertEqual(self.street.take_trusted(1, 0, (5,)), ())
        self.assertEqual(self.taken(1), [("sub", self.honest), ("sub", LIE)])
        self.assertEqual(ways_in(self.street.keep_of(1))[0][3], (5, 6))
        self.street.take_trusted(2, 0, (0, 6, 7))
        self.assertEqual(self.taken(2), [("other", LIE), ("sub", self.honest)])

    def test_shunned(self):
        self.street.take_shunned(1, 0, (5,))
        self.assertEqual(self.taken(1), [("other", LIE), ("sub", self.bare)])
        self.street.take_shunned(1, 0, (6,))
        self.assertEqual(self.taken(1), [("other", LIE), ("sub", self.bare), ("sub", LIE)])
        self.street.take_shunned(2, 0, ())
        self.assertEqual(ways_in(self.street.keep_of(2)), ways_in(self.keep))

    def test_what_was_left_of_what_was_taken(self):
        self.street.build(1, ("sub",))
        self.assertEqual(self.street.take_trusted(1, 0, (6,)), ())
        self.assertEqual(self.street.take_trusted(1, 0, (5,)), ((SUB[1], "sub", LIE),))
        self.assertEqual(self.street.take_shunned(1, 0, (5,)), ())
        self.assertEqual(self.street.take_shunned(1, 0, (6,)), ((SUB[1], "sub", LIE),))
        self.assertEqual(self.street.take(1, 0), ((SUB[1], "sub", LIE),))

    def test_of_itself(self):
        ahead = ways_in(self.street.keep_of(0))
        self.assertEqual(self.street.take_trusted(0, 0, (5,)), ())
        self.assertEqual(self.street.take_shunned(0, 0, (5,)), ())
        self.assertEqual(ways_in(self.street.keep_of(0)), ahead)

    def test_who_shuns_the_liars_takes_none_of_their_lies(self):
        self.assertEqual(liars(self.street.keep_of(0)), (5, 6))
        self.street.take_shunned(1, 0, liars(self.street.keep_of(0)))
        self.assertEqual(self.taken(1), [("sub", self.bare)])
        self.assertEqual(lies_of(self.street.keep_of(1)), ())


def some_projects(chance, many):
    """Names, and projects of them, each a change of the one ahead."""
    names, project = some_project(chance)
    projects = [project]
    while len(projects) < many:
        projects.append(some_change(chance, projects[-1], names))
    return names, projects


class Histories(unittest.TestCase):
    def test_the_order_of_taking_makes_no_difference(self):
        chance = random.Random(91)
        for step in range(40):
            names, projects = some_projects(chance, 3)
            first, second = (Street(tuple(projects), (False, True, False)) for turn in range(2))
            for street in (first, second):
                for i in range(3):
                    street.build(i, tuple(names))
            both = laid_on(laid_on(first.keep_of(0), first.keep_of(1)), first.keep_of(2))
            for street in (first, second):
                pairs = [(i, j) for i in range(3) for j in range(3)]
                for turn in range(2):
                    for i, j in chance.sample(pairs, len(pairs)):
                        self.assertEqual(street.take(i, j), ())
            for i in range(3):
                self.assertEqual(ways_in(first.keep_of(i)), ways_in(both))
                self.assertEqual(ways_in(second.keep_of(i)), ways_in(both))

    def test_no_run_is_done_twice(self):
        chance = random.Random(92)
        for step in range(40):
            names, projects = some_projects(chance, 4)
            street = Street(tuple(projects), tuple(chance.choice((False, True)) for project in projects))
            first = House(projects[0], Keep(), 60)
            first.answers(tuple(names))
            street.lay(2, first.keep())
            for turn in range(12):
                i = chance.randrange(4)
                if chance.random() < 0.5:
                    projects[i] = some_change(chance, chance.choice(projects), names)
                    street.give(i, projects[i])
                for j in range(4):
                    self.assertEqual(street.take(i, j), ())
                asked = tuple(chance.sample(names, 2))
                self.assertEqual(street.build(i, asked), tuple(answer_of(projects[i], name) for name in asked))
            self.check_counts(street, first.keep())

    def check_counts(self, street, laid):
        """As many runs were done as ways are there that were not laid, each given by the one house that did it."""
        both = laid
        for i in range(4):
            both = laid_on(both, street.keep_of(i))
        self.assertEqual(street.done_in_all(), both.many() - laid.many())
        self.assertEqual(street.done_in_all(), sum(runs_done(street.deeds_of(i)) for i in range(4)))
        for i in range(4):
            own = [way for way in ways_in(both) if way[3] == (i,)]
            self.assertEqual(len(own), runs_done(street.deeds_of(i)))

    def test_wary_houses_among_lies(self):
        chance = random.Random(93)
        told = 0
        for step in range(60):
            names, projects = some_projects(chance, 4)
            street = Street(tuple(projects), (True,) * 4)
            for turn in range(10):
                i, j = chance.randrange(4), chance.randrange(4)
                projects[i] = some_change(chance, projects[i], names)
                street.give(i, projects[i])
                if chance.random() < 0.4:
                    told += len(street.lay(i, some_keep(chance, projects[i], names)))
                told += len(street.take(i, j))
                self.assertEqual(street.build(i, tuple(names)), tuple(answer_of(projects[i], name) for name in names))
        self.assertGreater(told, 50)


if __name__ == "__main__":
    unittest.main()
