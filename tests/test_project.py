"""Promises 4.1 to 4.3: projects, look-ups and changes."""

import unittest

from askwright.errors import BadName, BadThing, NoThing
from askwright.project import Project, alike_on, is_source, unlike_names, with_source, without
from askwright.trees import is_tree, tree_size

LEAF = ("leaf", "x")
NO_NAMES = ("", "A", "1a", "a b", "x" * 25, None, 4, True, ["a"], ("a",), {})
NO_SOURCES = (None, True, 5, "", "leaf", (), ("leaf",), ("leaf", "a", "b"), ["leaf", "a"], ("tree", "a"), ("Leaf", "a"),
              ("leaf", None), ("leaf", 4), ("leaf", "%"), ("leaf", "x" * 301), ("leaf", ["a"]), ("rule", ("",) * 41),
              ("rule", None), ("made", ""), ("made", "A"), ("made", ("a",)), ("made", None), (None, "a"), (("leaf",), "a"),
              {"leaf": "a"}, (["leaf"], "a"), ("source", "a"), ("lack",))


def numbered(count):
    return tuple((f"n{number:02}", ("leaf", str(number))) for number in range(count))


class Sources(unittest.TestCase):
    def test_is_source(self):
        for source in (("leaf", ""), ("leaf", ()), ("leaf", ("a", ("b",))), ("leaf", "x" * 300), ("rule", ("fault",)),
                       ("rule", "no rule"), ("rule", ()), ("made", "a"), ("made", "x" * 24), ("leaf", "made")):
            self.assertIs(is_source(source), True, source)
        for value in NO_SOURCES:
            self.assertIs(is_source(value), False, value)

    def test_any_order(self):
        pairs = (("b", ("leaf", "x")), ("c", ("made", "c")), ("a/1", ("rule", ("fault",))), ("a", ("made", "zz")))
        rising = (pairs[3], pairs[2], pairs[0], pairs[1])
        for given in (pairs, rising, pairs[::-1], rising[::-1]):
            self.assertEqual(Project(given).sources(), rising)
        self.assertEqual(Project(()).sources(), ())

    def test_source_of(self):
        project = Project((("a", LEAF), ("b", ("made", "b"))))
        self.assertEqual(project.source_of("a"), LEAF)
        self.assertEqual(project.source_of("b"), ("made", "b"))
        for text in ("c", "", "A", "a b", "x" * 400, "%", "a\n"):
            self.assertIsNone(project.source_of(text))

    def test_refused_names_and_sources(self):
        for name in NO_NAMES:
            for source in (LEAF,) + NO_SOURCES:
                self.assertRaises(BadName, Project, ((name, source),))
        for source in NO_SOURCES:
            self.assertRaises(BadThing, Project, (("a", source),))
        self.assertRaises(BadThing, Project, (("a", LEAF), ("b", LEAF), ("a", LEAF)))
        self.assertRaises(BadThing, Project, (("a", LEAF), ("a", ("leaf", "y"))))

    def test_refused_pair_by_pair(self):
        self.assertRaises(BadThing, Project, (("a", ("leaf", 4)), ("B", LEAF)))
        self.assertRaises(BadName, Project, (("B", LEAF), ("a", ("leaf", 4))))
        self.assertRaises(BadThing, Project, (("a", LEAF), ("a", LEAF), ("B", LEAF)))
        self.assertRaises(BadName, Project, (("a", LEAF), ("B", LEAF), ("a", LEAF)))

    def test_sixty_names(self):
        self.assertEqual(Project(numbered(60)).sources(), numbered(60))
        self.assertRaises(BadThing, Project, numbered(61))
        self.assertRaises(BadThing, Project, numbered(61) + (("B", LEAF),))
        self.assertRaises(BadName, Project, numbered(60) + (("B", LEAF),))
        self.assertRaises(BadName, Project, numbered(60) + (("B", LEAF), ("b", LEAF)))
        self.assertRaises(BadThing, Project, numbered(60) + (("n00", LEAF),))


class LookedUp(unittest.TestCase):
    PROJECT = Project(tuple((name, LEAF) for name in ("b", "ab", "a", "a/b", "a.b", "abc", "b1")))

    def test_has(self):
        for name in ("a", "ab", "b1"):
            self.assertEqual(self.PROJECT.looked_up(("has", name)), "yes")
        for name in ("c", "abcd", "b2"):
            self.assertEqual(self.PROJECT.looked_up(("has", name)), "no")
        self.assertEqual(Project((("a", ("made", "q")),)).looked_up(("has", "a")), "yes")
        self.assertEqual(Project((("a", ("made", "q")),)).looked_up(("has", "q")), "no")

    def test_names(self):
        for text, row in (("", ("a", "a.b", "a/b", "ab", "abc", "b", "b1")), ("a", ("a", "a.b", "a/b", "ab", "abc")),
                          ("ab", ("ab", "abc")), ("abc", ("abc",)), ("abcd", ()), ("b", ("b", "b1")), ("c", ()),
                          ("A", ()), (" ", ()), ("b1", ("b1",)), ("a/", ("a/b",)), ("x" * 100, ())):
            self.assertEqual(self.PROJECT.looked_up(("names", text)), row)
        self.assertEqual(Project(()).looked_up(("names", "")), ())

    def test_more_than_forty(self):
        names = tuple(name for name, source in numbered(60))
        self.assertEqual(Project(numbered(60)).looked_up(("names", "")), names[:40])
        self.assertEqual(Project(numbered(60)).looked_up(("names", "n")), names[:40])
        self.assertEqual(Project(numbered(60)).looked_up(("names", "n3")), names[30:40])
        self.assertEqual(Project(numbered(41)).looked_up(("names", "")), names[:40])
        self.assertEqual(Project(numbered(40)).looked_up(("names", "")), names[:40])

    def test_a_row_greater_than_a_tree(self):
        names = tuple(f"n{number:023}" for number in range(30))
        row = Project(tuple((name, LEAF) for name in names)).looked_up(("names", ""))
        self.assertEqual(row, names[:23])
        self.assertIs(is_tree(row), True)
        self.assertEqual(tree_size(row), 576)

    def test_from_the_first_on(self):
        names = tuple(f"n{number:023}" for number in range(24)) + ("z",)
        row = Project(tuple((name, LEAF) for name in names)).looked_up(("names", ""))
        self.assertEqual(row, names[:23])

    def test_a_row_of_just_a_tree(self):
        names = tuple(f"n{number:023}" for number in range(23))
        for last, there in (("z" * 23, True), ("z" * 24, False)):
            row = Project(tuple((name, LEAF) for name in names + (last,))).looked_up(("names", ""))
            self.assertEqual(row, names + (last,) if there else names)

    def test_alike_on(self):
        one = Project((("a", LEAF), ("b", LEAF), ("c", ("made", "a"))))
        other = Project((("a", LEAF), ("b", ("leaf", "y")), ("d", LEAF)))
        self.assertIs(alike_on(one, other, (), ()), True)
        self.assertIs(alike_on(one, other, ("a", "e"), (("has", "a"), ("has", "b"), ("has", "e"), ("names", "a"))), True)
        self.assertIs(alike_on(one, other, ("a",), (("names", "b"),)), True)
        for name in ("b", "c", "d"):
            self.assertIs(alike_on(one, other, (name,), ()), False)
            self.assertIs(alike_on(one, other, ("a", name), ()), False)
        for ask in (("has", "c"), ("has", "d"), ("names", ""), ("names", "c"), ("names", "d")):
            self.assertIs(alike_on(one, other, (), (ask,)), False)
            self.assertIs(alike_on(other, one, ("a",), (("has", "a"), ask)), False)
        self.assertIs(alike_on(one, one, ("a", "b", "c"), (("names", ""), ("has", "c"))), True)


class Changes(unittest.TestCase):
    PAIRS = (("a", LEAF), ("b", ("made", "a")))

    def test_with_source(self):
        project = Project(self.PAIRS)
        self.assertEqual(with_source(project, "c", LEAF).sources(), self.PAIRS + (("c", LEAF),))
        self.assertEqual(with_source(project, "a", ("leaf", ())).sources(), (("a", ("leaf", ())), self.PAIRS[1]))
        self.assertEqual(with_source(project, "a", LEAF).sources(), self.PAIRS)
        self.assertEqual(project.sources(), self.PAIRS)

    def test_with_source_refused(self):
        project = Project(self.PAIRS)
        for name in NO_NAMES:
            self.assertRaises(BadName, with_source, project, name, LEAF)
            self.assertRaises(BadName, with_source, project, name, ("leaf", 4))
        for source in NO_SOURCES:
            self.assertRaises(BadThing, with_source, project, "a", source)
            self.assertRaises(BadThing, with_source, project, "z", source)
        full = Project(numbered(60))
        self.assertRaises(BadThing, with_source, full, "z", LEAF)
        self.assertRaises(BadName, with_source, full, "Z", LEAF)
        self.assertEqual(with_source(full, "n00", LEAF).source_of("n00"), LEAF)
        self.assertEqual(len(with_source(full, "n59", LEAF).sources()), 60)
        self.assertEqual(len(with_source(Project(numbered(59)), "z", LEAF).sources()), 60)

    def test_without(self):
        project = Project(self.PAIRS)
        self.assertEqual(without(project, "a").sources(), self.PAIRS[1:])
        self.assertEqual(without(without(project, "a"), "b").sources(), ())
        self.assertEqual(project.sources(), self.PAIRS)
        for name in ("c", "", "A", "a b"):
            self.assertRaises(NoThing, without, project, name)

    def test_unlike_names(self):
        one = Project((("a", LEAF), ("b", LEAF), ("c", ("made", "a")), ("q", ("rule", "x"))))
        other = Project((("a", LEAF), ("b", ("leaf", "y")), ("d", LEAF), ("q", ("leaf", "x"))))
        self.assertEqual(unlike_names(one, other), ("b", "c", "d", "q"))
        self.assertEqual(unlike_names(other, one), ("b", "c", "d", "q"))
        self.assertEqual(unlike_names(one, one), ())
        self.assertEqual(unlike_names(one, Project(())), ("a", "b", "c", "q"))
        self.assertEqual(unlike_names(Project(()), Project(())), ())

    def test_a_project_never_changes(self):
        project = Project(self.PAIRS)
        with_source(project, "c", LEAF)
        without(project, "a")
        project.looked_up(("names", ""))
        self.assertRaises(BadThing, with_source, project, "a", None)
        self.assertEqual(project.sources(), self.PAIRS)


if __name__ == "__main__":
    unittest.main()
