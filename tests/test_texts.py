"""Promises 13.1 to 13.4: projects, papers and keeps written as lines, and read back."""

import random
import unittest

from askwright.asktree import answer_key
from askwright.errors import BadText, BadTree
from askwright.house import House
from askwright.keeps import Keep, key_order
from askwright.papers import paper_of
from askwright.project import Project
from askwright.rules import is_rule
from askwright.texts import keep_text, paper_text, project_text, read_keep, read_paper, read_project
from askwright.trees import is_name, read_tree
from helpers import (asks_for, keep_of, layered_change, layered_project, passes_on, project_of, run_of, some_keep, some_project,
                     ways_in)

RULE = ("text b x", "ask a b", "say a")
RULE_TEXT = '("text b x" "ask a b" "say a")'
SAYS = ("say a",)
KEY = f"key main {RULE_TEXT}\n"
TREES = (("", '""'), ("a b", '"a b"'), ('"', '"\\""'), ("\\", '"\\\\"'), ('\\"\\', '"\\\\\\"\\\\"'), ((), "()"),
         (("",), '("")'), ((("x", ()), "y"), '(("x" ()) "y")'), ("~ (", '"~ ("'), ("none", '"none"'), ("\\n", '"\\\\n"'))
NO_TREES = ("", " ", "x", '"', '"x', 'x"', '"""', '"\\"', '"\\x"', "(", ")", "()()", "( )", '(" "', '("x"  "y")', '("x" )', '( "x")',
            '("x","y")', '"x" ', '"x"y', '"%"', '"\u00e9"', '"\t"', '"' + "x" * 301 + '"', "(" * 13 + ")" * 13, "none", '"x" "y"')


class TextCase(unittest.TestCase):
    def check_refused(self, read, text, row):
        with self.assertRaises(BadText) as caught:
            read(text)
        self.assertIs(caught.exception.__class__, BadText)
        self.assertEqual(caught.exception.row, row, text)

    def check_cut(self, read, text, whole=()):
        """Each beginning of a text; those of that many lines are whole themselves."""
        for place in range(len(text)):
            lines = text[:place].count("\n")
            if lines not in whole or text[:place] and text[place - 1] != "\n":
                self.check_refused(read, text[:place], lines + 1)
            else:
                read(text[:place])

    def check_line_ends(self, read, text):
        many = text.count("\n")
        self.check_refused(read, text + "\n", many + 1)
        self.check_refused(read, "\n" + text, 1)
        self.check_refused(read, text[:-1], many)
        self.check_refused(read, text + " ", many + 1)
        self.check_refused(read, text + " \n", many + 1)
        self.check_refused(read, text.replace("\n", "\r\n"), 1)
        self.check_refused(read, text.replace("\n", " \n"), 1)
        self.check_refused(read, " " + text, 1)


class Projects(TextCase):
    def check(self, project, text):
        self.assertEqual(project_text(project), text)
        self.assertEqual(read_project(text).sources(), project.sources())

    def test_without_sources(self):
        self.check(Project(()), "")

    def test_each_kind(self):
        self.check(project_of(x=("leaf", "v")), 'leaf x "v"\n')
        self.check(project_of(x=("rule", RULE)), f"rule x {RULE_TEXT}\n")
        self.check(project_of(x=("rule", "no rule")), 'rule x "no rule"\n')
        self.check(project_of(x=("made", "x")), "made x x\n")

    def test_by_rising_names(self):
        project = Project((("b", ("leaf", "")), ("a/b.1", ("made", "b")), ("ab", ("leaf", ())), ("a", ("rule", SAYS))))
        self.check(project, 'rule a ("say a")\nmade a/b.1 b\nleaf ab ()\nleaf b ""\n')

    def test_trees(self):
        for tree, text in TREES:
            self.check(project_of(x=("leaf", tree)), f"leaf x {text}\n")
            self.check(project_of(x=("rule", tree)), f"rule x {text}\n")

    def test_sixty_names(self):
        pairs = tuple((f"n{number:02}", ("leaf", "")) for number in range(60))
        text = "".join(f'leaf {name} ""\n' for name, source in pairs)
        self.check(Project(pairs), text)
        self.check_refused(read_project, text + 'leaf n60 ""\n', 61)
        self.check_refused(read_project, text + 'leaf n60 ""\nleaf n61 ""\n', 61)
        self.check_refused(read_project, text + 'leaf n00 ""\n', 61)

    def test_names_out_of_order_or_twice(self):
        self.check_refused(read_project, 'leaf b ""\nleaf a ""\n', 2)
        self.check_refused(read_project, 'leaf a ""\nleaf a ""\n', 2)
        self.check_refused(read_project, 'leaf a ""\nrule a ""\nleaf b ""\n', 2)
        self.check_refused(read_project, 'leaf a ""\nleaf c ""\nleaf b ""\n', 3)
        # The first of two lines that can't stand there.
        self.check_refused(read_project, 'leaf a ""\nleaf c ""\nleaf b ""\nleaf a ""\nnothing\n', 3)

    def test_what_is_no_source(self):
        for line in ('leaves a ""', "leaf", "leaf a", "leaf a ", 'leaf "a"', 'Leaf a ""', "made a", "made a ", 'made a "b"', "made a B",
                     "made a b c", 'lack a ""', "", " ", "a", 'thing a ""', "made  a b", "made a  b", 'leaf\ta ""', "rule a say", "made a ()",
                     'leaf a "" ""', 'out a', 'leaf a""'):
            self.check_refused(read_project, f"{line}\n", 1)
            self.check_refused(read_project, f'leaf a ""\nrule b ()\n{line}\nleaf d ""\n', 3)

    def test_what_is_no_name(self):
        for name in ("", "A", "1", "a_", ".a", "/", "x" * 25, "a-b", "\u00e9", '"a"'):
            for line in (f'leaf {name} ""', f"rule {name} {RULE_TEXT}", f"made {name} a", f"made a {name}"):
                self.check_refused(read_project, f"{line}\n", 1)

    def test_what_is_no_tree(self):
        for text in NO_TREES:
            self.check_refused(read_project, f"leaf a {text}\n", 1)
            self.check_refused(read_project, f'leaf a ""\nrule b {text}\nleaf c ""\n', 2)

    def test_lines_and_their_ends(self):
        text = project_text(project_of(a=("leaf", "x y"), b=("rule", RULE), c=("made", "b")))
        self.check_line_ends(read_project, text)
        self.check_cut(read_project, text, (0, 1, 2))


class Papers(TextCase):
    def check(self, paper, text):
        self.assertEqual(paper_text(paper), text)
        self.assertEqual(read_paper(text), paper)

    def test_the_empty_paper(self):
        self.check((), "")

    def test_a_step_without_asks(self):
        self.check((("a", (), ("said", "v")),), 'step a\nsaid "v"\n')
        self.check((("a", (), ("said", "")), ("b", (), ("fault", "told"))), 'step a\nsaid ""\nstep b\nfault told\n')

    def test_each_kind_of_ask(self):
        self.check((("a", ((("rule", "r"), RULE), (("thing", "x"), "v"), (("has", "y"), "no"), (("names", "a b"), ("a", "b")),
                           (("thing", "q"), None)), ("fault", "lack")),),
                   f'step a\nrule "r" {RULE_TEXT}\nthing "x" "v"\nhas "y" "no"\nnames "a b" ("a" "b")\nthing "q" none\nfault lack\n')

    def test_each_kind_of_end(self):
        for word in ("told", "kind", "name", "lack", "big", "silent", "long", "rule"):
            self.check((("a", (), ("fault", word)),), f"step a\nfault {word}\n")
        self.check((("a", (), ("stuck", "b/1")),), "step a\nstuck b/1\n")
        for tree, text in TREES:
            self.check((("a", ((("thing", "x"), tree),), ("said", tree)),), f'step a\nthing "x" {text}\nsaid {text}\n')

    def test_forms_alone_are_looked_at(self):
        # A name twice, answers that no ask of their kind has, asks of what is no name, rules asked for in the middle.
        for tree, text in TREES[:5]:
            for kind in ("thing", "has", "names", "rule"):
                self.check((("a", (((kind, tree), None), ((kind, tree), "other"), ((kind, "x" * 300), ((),))), ("stuck", "a")),
                            ("a", (), ("said", ""))),
                           f'step a\n{kind} {text} none\n{kind} {text} "other"\n{kind} "{"x" * 300}" (())\nstuck a\nstep a\nsaid ""\n')

    def test_names_that_are_none(self):
        for name in ("", "A", "1", "a b", "x" * 25, '"a"', " a", "a "):
            self.check_refused(read_paper, f'step {name}\nsaid ""\n', 1)
            self.check_refused(read_paper, f'step a\nsaid ""\nstep {name}\nsaid ""\n', 3)
            self.check_refused(read_paper, f"step a\nstuck {name}\n", 2)

    def test_kinds_and_words_that_are_none(self):
        for line in ('things "x" "v"', 'leaf "x" "v"', 'Thing "x" "v"', "fault none", "fault", "fault ", "fault Told", 'fault "told"',
                     "fault told ", "says a", 'said x', "said", "said ", 'said  ""', 'said "" ""', "said none", "lack", 'value ""', "stuck",
                     'stuck "a"', "stuck a b", "", " ", "step", "step b", "fault  told", 'asks "x" "v"', 'ask "x" "v"', "fault lost"):
            self.check_refused(read_paper, f"step a\n{line}\n", 2)
            self.check_refused(read_paper, f'step a\nthing "x" ""\n{line}\nsaid ""\n', 3)

    def test_asks_not_written_so(self):
        for rest in ("", " ", '"x"', '"x" ', ' "x" "v"', '"x"  "v"', '"x" "v" ', '"x" v', "x none", '("x") none', "() none", '"x" None', '"x"none',
                     '"x" none ', '"x" "v" "w"', '"x""v"', '"x', '"x" (', f'"{"x" * 301}" none', '"%" none', '"\\x" none', '"x" none none',
                     '"x"\tnone', '("x" "v")'):
            for kind in ("thing", "has", "names", "rule"):
                self.check_refused(read_paper, f'step a\n{kind} {rest}\nsaid ""\n', 2)
        for text in NO_TREES[:-2]:
            self.check_refused(read_paper, f'step a\nthing "x" {text}\nsaid ""\n', 2)

    def test_lines_that_are_lacking_or_too_many(self):
        self.check_refused(read_paper, "step a\n", 2)
        self.check_refused(read_paper, 'step a\nthing "x" ""\n', 3)
        self.check_refused(read_paper, 'step a\nthing "x" ""\nstep b\nsaid ""\n', 3)
        self.check_refused(read_paper, "step a\nstep a\n", 2)
        self.check_refused(read_paper, 'step a\nsaid ""\nsaid ""\n', 3)
        self.check_refused(read_paper, 'step a\nsaid ""\nfault told\n', 3)
        self.check_refused(read_paper, 'step a\nsaid ""\nthing "x" ""\n', 3)
        self.check_refused(read_paper, 'said ""\n', 1)
        self.check_refused(read_paper, 'thing "x" ""\nstep a\nsaid ""\n', 1)

    def test_lines_and_their_ends(self):
        text = 'step a\nthing "x" ("v" ())\nhas "y" "no"\nsaid "v"\nstep b\nstuck a\n'
        self.check_line_ends(read_paper, text)
        self.check_cut(read_paper, text, (0, 4))


class Keeps(TextCase):
    def check(self, keep, text):
        self.assertEqual(keep_text(keep), text)
        self.assertEqual(ways_in(read_keep(text)), ways_in(keep))

    def test_the_keep_of_nothing(self):
        self.check(Keep(), "")

    def test_one_way(self):
        self.check(keep_of((RULE, "main", run_of(("said", "v"), (("thing", "x"), "v")), (7,))), f'{KEY}way 7\nthing "x" "v"\nsaid "v"\n')
        self.check(keep_of((("fault",), "a", run_of(("fault", "told")), ())), 'key a ("fault")\nway .\nfault told\n')

    def test_each_kind_of_ask_and_end(self):
        self.check(keep_of((SAYS, "a", run_of(("fault", "lack"), (("has", "y"), "yes"), (("names", '"'), ("a", "b/")), (("names", ""), ()),
                                              (("thing", "q"), None)), (1,))),
                   'key a ("say a")\nway 1\nhas "y" "yes"\nnames "\\"" ("a" "b/")\nnames "" ()\nthing "q" none\nfault lack\n')
        for word in ("told", "kind", "name", "lack", "big", "silent", "long"):
            self.check(keep_of((SAYS, "a", run_of(("fault", word)), (0,))), f'key a ("say a")\nway 0\nfault {word}\n')
        for tree, text in TREES:
            self.check(keep_of((SAYS, "a", run_of(("said", tree), (("thing", "x"), tree)), ())),
                       f'key a ("say a")\nway .\nthing "x" {text}\nsaid {text}\n')

    def test_keys_in_order(self):
        # Rules go ahead of names.
        end = run_of(("said", ""))
        self.check(keep_of((("say b",), "a", end, ()), (("say a", "say a"), "a", end, ()), (SAYS, "b", end, ()), (SAYS, "a", end, ())),
                   'key a ("say a")\nway .\nsaid ""\nkey b ("say a")\nway .\nsaid ""\nkey a ("say a" "say a")\nway .\nsaid ""\n'
                   'key a ("say b")\nway .\nsaid ""\n')

    def test_ways_in_the_order_of_their_answers(self):
        keep = Keep()
        for answer in (("b",), "b", (), None, "", ("a", "a"), "a"):
            keep.put(SAYS, "a", run_of(("said", ""), (("thing", "x"), answer)), ())
        ways = "".join(f'way .\nthing "x" {text}\nsaid ""\n' for text in ("none", '""', '"a"', '"b"', "()", '("a" "a")', '("b")'))
        self.check(keep, 'key a ("say a")\n' + ways)

    def test_givers(self):
        for givers, text in (((), "."), ((0,), "0"), ((99,), "99"), ((0, 1, 10, 99), "0,1,10,99"), (tuple(range(100)), ",".join(map(str, range(100))))):
            self.check(keep_of((SAYS, "a", run_of(("said", "")), givers)), f'key a ("say a")\nway {text}\nsaid ""\n')

    def test_givers_not_written_so(self):
        for text in ("", " ", "..", ".,1", "1,.", "1,", ",1", "1,1", "2,1", "100", "99,100", "-1", "01", "00", "0,01", "1, 2", "1 2", "+1", "1.", "a", "1,,2",
                     "\u0661", "1 ", " 1", "10,9", "1;2"):
            self.check_refused(read_keep, f'key a ("say a")\nway {text}\nsaid ""\n', 2)
        self.check_refused(read_keep, 'key a ("say a")\nway\nsaid ""\n', 2)
        self.check_refused(read_keep, 'key a ("say a")\nways 1\nsaid ""\n', 2)

    def test_keys_not_written_so(self):
        for line in ("key", "key a", "key a ", 'key a "say a"', "key a ()", 'key a ("say")', 'key A ("say a")', 'key  a ("say a")', 'key a  ("say a")',
                     'key ("say a")', 'key a ("say a") ', 'keys a ("say a")', "way .", 'said ""', 'thing "x" ""', "", 'key a ("say a") b',
                     'step a', 'key "a" ("say a")', 'key a ("go 2")'):
            self.check_refused(read_keep, f'{line}\nway .\nsaid ""\n', 1)

    def test_keys_out_of_order_or_twice(self):
        block = 'key b ("say b")\nway .\nsaid ""\n'
        for key in ('b ("say b")', 'a ("say b")', 'c ("say a")', 'b ("fault")'):
            self.check_refused(read_keep, f'{block}key {key}\nway .\nsaid ""\n', 4)
        self.check_refused(read_keep, f'{block}key c ("say b")\nway .\nsaid ""\n{block}', 7)
        for key in ('c ("say b")', 'a ("say c")', 'a ("say b" "fault")'):
            self.assertEqual(read_keep(f'{block}key {key}\nway .\nsaid ""\n').many(), 2)

    def test_a_key_without_a_way(self):
        self.check_refused(read_keep, 'key a ("say a")\n', 2)
        self.check_refused(read_keep, 'key a ("say a")\nkey b ("say a")\nway .\nsaid ""\n', 2)
        self.check_refused(read_keep, 'key a ("say a")\nway .\nsaid ""\nkey b ("say a")\n', 5)
        self.check_refused(read_keep, 'key a ("say a")\nsaid ""\n', 2)
        self.check_refused(read_keep, 'key a ("say a")\nthing "x" ""\nsaid ""\n', 2)

    def test_lines_that_are_lacking_or_too_many(self):
        self.check_refused(read_keep, f"{KEY}way .\n", 3)
        self.check_refused(read_keep, f'{KEY}way .\nthing "x" ""\n', 4)
        self.check_refused(read_keep, f'{KEY}way .\nway .\nsaid ""\n', 3)
        self.check_refused(read_keep, f'{KEY}way .\nkey b ("say a")\n', 3)
        self.check_refused(read_keep, f'{KEY}way .\nsaid ""\nsaid ""\n', 4)
        self.check_refused(read_keep, f'{KEY}way .\nsaid ""\nthing "x" ""\n', 4)

    def test_asks_and_ends_that_none_can_be(self):
        for line in ('rule "x" ""', 'has "x" none', 'has "x" "maybe"', 'has "x" ("yes")', 'has "X" "yes"', 'thing "X" ""', 'thing "" ""',
                     'names "x" none', 'names "x" "x"', 'names "x" ("X")', 'names "x" (())', 'thing ("x") ""', "stuck a", "fault rule", "fault",
                     "fault none", "said", "said none", "", 'thing "x"', 'thing "x" ', "thing x none"):
            self.check_refused(read_keep, f'{KEY}way .\n{line}\nsaid ""\n', 3)
            self.check_refused(read_keep, f'{KEY}way .\nthing "y" none\n{line}\nsaid ""\n', 4)

    def test_lines_and_their_ends(self):
        text = f'{KEY}way 3,4\nthing "x" none\nfault lack\nway .\nthing "x" "v"\nsaid ("v")\nkey a ("text c x")\nway 0\nsaid ""\n'
        self.check_line_ends(read_keep, text)
        self.check_cut(read_keep, text, (0, 4, 7))


class WaysAhead(TextCase):
    """Where a way can't stand behind the one ahead of it."""

    FIRST = 'way .\nthing "x" "b"\nhas "y" "no"\nsaid "1"\n'

    def check_second(self, second, row):
        text = f"{KEY}{self.FIRST}{second}"
        if row is None:
            self.assertEqual(keep_text(read_keep(text)), text)
            self.assertEqual(read_keep(text).many(), 2)
        else:
            self.check_refused(read_keep, text, row)
            self.check_refused(read_keep, text + 'way .\nthing "x" "c"\nsaid ""\nkey a ()\n', row)

    def test_that_may_stand(self):
        self.check_second('way .\nthing "x" "b"\nhas "y" "yes"\nsaid "1"\n', None)
        self.check_second('way 5\nthing "x" "c"\nsaid "1"\n', None)
        self.check_second('way 5\nthing "x" ()\nthing "x" none\nhas "z" "no"\nfault told\n', None)

    def test_that_is_there(self):
        self.check_second(self.FIRST, 9)
        self.check_second(self.FIRST.replace("way .", "way 1"), 9)

    def test_that_asks_otherwise(self):
        self.check_second('way .\nthing "y" "c"\nsaid "1"\n', 7)
        self.check_second('way .\nhas "x" "yes"\nsaid "1"\n', 7)
        self.check_second('way .\nthing "x" "b"\nhas "z" "yes"\nsaid "1"\n', 8)
        self.check_second('way .\nthing "x" "b"\nnames "y" ()\nsaid "1"\n', 8)

    def test_that_has_a_lesser_answer(self):
        self.check_second('way .\nthing "x" "a"\nsaid "1"\n', 7)
        self.check_second('way .\nthing "x" none\nfault lack\n', 7)
        self.check_second('way .\nthing "x" ""\nhas "z" "yes"\nsaid "1"\n', 7)

    def test_that_goes_on_behind_the_end(self):
        self.check_second('way .\nthing "x" "b"\nhas "y" "no"\nhas "z" "yes"\nsaid "1"\n', 9)

    def test_that_ends(self):
        self.check_second('way .\nsaid "1"\n', 7)
        self.check_second('way .\nthing "x" "b"\nfault told\n', 8)
        self.check_second('way .\nthing "x" "b"\nhas "y" "no"\nsaid "2"\n', 9)
        self.check_second('way .\nthing "x" "b"\nhas "y" "no"\nfault told\n', 9)

    def test_the_way_ahead_alone_is_looked_at(self):
        text = f'{KEY}way .\nthing "x" "a"\nsaid ""\nway .\nthing "x" "b"\nsaid ""\nway .\nthing "x" "a"\nsaid ""\n'
        self.check_refused(read_keep, text, 9)
        # Another key begins anew.
        text = f'key a ("say a")\nway .\nthing "x" "b"\nsaid ""\nkey b ("say a")\nway .\nhas "x" "no"\nsaid ""\n'
        self.assertEqual(keep_text(read_keep(text)), text)

    def test_ends_at_once(self):
        self.check_refused(read_keep, f'{KEY}way .\nsaid ""\nway .\nsaid ""\n', 5)
        self.check_refused(read_keep, f'{KEY}way .\nsaid ""\nway .\nsaid "x"\n', 5)
        self.check_refused(read_keep, f'{KEY}way .\nsaid ""\nway .\nthing "x" ""\nsaid ""\n', 5)


def tree_or_none(text):
    try:
        return read_tree(text)
    except BadTree:
        return None


def line_kind(line):
    """What a line could be, whatever stands ahead of it, by its words: a tuple of a word and what it tells."""
    word, blank, rest = line.partition(" ")
    name, other, tail = rest.partition(" ")
    if word in ("thing", "has", "names", "rule"):
        for place in range(len(rest)):
            ask = tree_or_none(rest[:place])
            answer = tree_or_none(rest[place + 1:])
            if isinstance(ask, str) and rest[place] == " " and (answer is not None or rest[place + 1:] == "none"):
                return ("ask", (word, ask), answer)
    if word in ("leaf", "rule") and is_name(name) and tree_or_none(tail) is not None:
        return ("source", name)
    if word == "made" and is_name(name) and is_name(tail):
        return ("source", name)
    if word == "said" and tree_or_none(rest) is not None:
        return ("end", word)
    if word == "fault" and rest in "told kind name lack big silent long rule".split():
        return ("end", rest)
    if word in ("stuck", "step") and is_name(rest):
        return ("end" if word == "stuck" else "step", word)
    if word == "key" and is_name(name) and is_rule(tree_or_none(tail)):
        return ("key", (tree_or_none(tail), name))
    if word == "way" and (rest == "." or rest in [",".join(map(str, numbers)) for numbers in rising_numbers(rest)]):
        return ("way",)
    return ("none",)


def rising_numbers(text):
    """The rising rows of numbers from 0 to 99 that a text may tell: one, or none."""
    figures = text.split(",")
    if not all(figure.isascii() and figure.isdigit() and len(figure) < 3 for figure in figures):
        return []
    numbers = [int(figure) for figure in figures]
    return [numbers] if numbers == sorted(set(numbers)) else []


def may_be_kept(told):
    if told[0] == "end":
        return told[1] not in ("rule", "stuck")
    kind, text = told[1]
    answer = told[2]
    if kind == "names":
        return isinstance(answer, tuple) and all(is_name(part) for part in answer)
    if kind == "rule" or not is_name(text):
        return False
    return kind == "thing" or answer in ("yes", "no")


def bad_row(text, looks):
    """The number of the first line that can't stand there, None where all can; looks tells it of a line and those ahead."""
    lines = text.split("\n")
    last = lines.pop()
    told = [line_kind(line) for line in lines]
    for place in range(len(lines)):
        if not looks(told[:place], told[place]):
            return place + 1
    return len(lines) + 1 if last or not looks(told, ("whole",)) else None


def project_looks(ahead, told):
    return told[0] == "whole" or told[0] == "source" and len(ahead) < 60 and all(other[1] < told[1] for other in ahead)


def paper_looks(ahead, told):
    between = not ahead or ahead[-1][0] == "end"
    if told[0] in ("whole", "step"):
        return between
    return told[0] in ("ask", "end") and not between


def keep_looks(ahead, told):
    last = ahead[-1][0] if ahead else "end"
    if told[0] == "whole":
        return last == "end"
    if told[0] == "key":
        return last == "end" and all(key_order(other[1]) < key_order(told[1]) for other in ahead if other[0] == "key")
    if told[0] == "way":
        return bool(ahead) and last in ("key", "end")
    if told[0] not in ("ask", "end") or last in ("key", "end") or not may_be_kept(told):
        return False
    return stands_behind(ways_of_key(ahead), told)


def ways_of_key(ahead):
    """The ways of the last key so far, each as its lines."""
    ways = []
    for told in ahead:
        if told[0] == "key":
            ways = []
        elif told[0] == "way":
            ways.append([])
        else:
            ways[-1].append(told)
    return ways


def stands_behind(ways, told):
    now = ways[-1]
    if len(ways) == 1 or ways[-2][:len(now)] != now:
        return True
    other = ways[-2][len(now)]
    return told[0] == other[0] == "ask" and told[1] == other[1] and answer_key(told[2]) >= answer_key(other[2])


def turned_text(chance, text, lines):
    """A text with something put otherwise, perhaps one that may be read."""
    pick = chance.randrange(8)
    place = chance.randrange(len(text) + 1)
    rows = text.split("\n")
    row = chance.randrange(len(rows))
    other = chance.randrange(len(rows))
    if pick == 0:
        return text[:place] + text[place + 1:]
    if pick == 1:
        return text[:place] + chance.choice(' "\\()nax.,019%\n') + text[place:]
    if pick == 2:
        return text[:place] + chance.choice(' "\\()nax.,019%\n') + text[place + 1:]
    if pick == 3:
        rows.pop(row)
    elif pick == 4:
        rows.insert(other, rows[row])
    elif pick == 5:
        rows[row], rows[other] = rows[other], rows[row]
    elif pick == 6:
        rows[row] = chance.choice(lines)
    else:
        rows = rows[:row] + rows[min(row, other):max(row, other)] + rows[row:]
    return "\n".join(rows)


class Histories(TextCase):
    def check_turned(self, chance, text, read, write, looks, seen):
        lines = text.split("\n") + ['thing "n0" "x"', 'has "n1" "no"', 'said ""', "fault told", "way 1,2", "step n0", "stuck n1"]
        for turn in range(8):
            turned = turned_text(chance, text, lines)
            row = bad_row(turned, looks)
            if row is None:
                self.assertEqual(write(read(turned)), turned)
            else:
                self.check_refused(read, turned, row)
            kind = "read" if row is None else "first" if row == 1 else "later"
            seen[kind] = seen.get(kind, 0) + 1

    def check_seen(self, seen):
        for kind in ("read", "first", "later"):
            self.assertGreater(seen[kind], 40, seen)

    def test_projects(self):
        chance = random.Random(79)
        seen = {}
        for step in range(120):
            names, project = chance.choice((some_project, layered_project))(chance)
            text = project_text(project)
            self.assertEqual(read_project(text).sources(), project.sources())
            self.assertIsNone(bad_row(text, project_looks))
            self.check_turned(chance, text, read_project, project_text, project_looks, seen)
        self.check_seen(seen)

    def test_papers(self):
        chance = random.Random(83)
        seen = {}
        for step in range(120):
            names, project = chance.choice((some_project, layered_project))(chance)
            paper = paper_of(project, chance.choice(names))
            text = paper_text(paper)
            self.assertEqual(read_paper(text), paper)
            self.assertIsNone(bad_row(text, paper_looks))
            self.check_turned(chance, text, read_paper, paper_text, paper_looks, seen)
        self.check_seen(seen)

    def test_keeps(self):
        chance = random.Random(89)
        seen = {}
        for step in range(200):
            names, project = chance.choice((some_project, layered_project))(chance)
            keep = some_keep(chance, project, names) if chance.random() < 0.4 else self.house_keep(chance, project, names)
            text = keep_text(keep)
            self.assertEqual(ways_in(read_keep(text)), ways_in(keep))
            self.assertIsNone(bad_row(text, keep_looks))
            self.check_turned(chance, text, read_keep, keep_text, keep_looks, seen)
        self.check_seen(seen)

    def house_keep(self, chance, project, names):
        house = House(project, Keep(), chance.randrange(100))
        for turn in range(5):
            house.answers(tuple(names))
            house.set_project(layered_change(chance, house.project(), names))
        return house.keep()

    def test_of_rules_with_many_ways(self):
        chance = random.Random(97)
        seen = {}
        for step in range(40):
            house = House(project_of(a=asks_for("x", "y", "z"), b=passes_on("x")), Keep(), step)
            for turn in range(8):
                sources = {name: ("leaf", chance.choice(("", "a", "b", (), ("a",)))) for name in chance.sample("xyz", 2)}
                house.set_project(project_of(a=asks_for("x", "y", "z"), b=passes_on("x"), **sources))
                house.answers(("a", "b"))
            self.check_turned(chance, keep_text(house.keep()), read_keep, keep_text, keep_looks, seen)
        self.assertGreater(seen["later"], 100)


if __name__ == "__main__":
    unittest.main()
