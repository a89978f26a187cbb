"""Promises 14.1 and 14.2: the desk."""

import random
import unittest

from askwright.desk import Desk
from askwright.errors import NoThing
from askwright.feet import foot_of
from askwright.keeps import Keep
from askwright.papers import paper_of
from askwright.plain import answer_of, chain_of, met_by
from askwright.project import Project, with_source, without
from askwright.rounds import rounds_of
from askwright.sharing import put_all
from askwright.texts import paper_text, project_text
from askwright.trees import tree_text
from helpers import key_and_run, layered_project, layered_source, plain_deed, some_project, some_source

RULE = '("text b x" "ask a b" "say a")'


def desk_of(*lines):
    """A desk told these lines, each of which is done."""
    desk = Desk()
    for line in lines:
        if desk.asked(line).startswith("refused"):
            raise AssertionError(line)
    return desk


def seen_of(desk):
    """What a desk tells of itself without a deed, and with deeds that are taken back."""
    told = [desk.asked(line) for line in ("deeds", "keep", "build a b main x q s", "deeds", "back", "deeds", "keep",
                                          "paper main", "chain main", "rounds main", "foot main", "take shelf", "keep")]
    if not told[-2].startswith("refused"):
        desk.asked("back")
    return told


class DeskCase(unittest.TestCase):
    def check(self, desk, *lines):
        """Pairs of a line and its answer, one behind the other."""
        for line, answer in lines:
            self.assertEqual(desk.asked(line), answer, line)


class Lines(DeskCase):
    def test_at_first(self):
        self.check(Desk(), ("deeds", ""), ("keep", "0"), ("build a", "lack"), ("deeds", ""), ("paper a", ""), ("chain a", ""),
                   ("rounds a b", ""), ("foot a", "a"), ("back", "done"), ("back", "refused NoDeed"), ("take a", "refused NoThing"),
                   ("out a", "refused NoThing"))

    def test_changes(self):
        desk = Desk()
        self.check(desk, ('leaf x "v"', "done"), ("build x", 'value "v"'), ("leaf x ()", "done"), ("build x", "value ()"),
                   (f"rule main {RULE}", "done"), ("build main", "value ()"), (f"leaf r {RULE}", "done"), ("made m r", "done"),
                   ("build m", "value ()"), ("out r", "done"), ("build m", "fault lack"), ("out r", "refused NoThing"),
                   ('rule main "no"', "done"), ("build main", "fault rule"))

    def test_trees_of_each_kind(self):
        for text in ('""', '"a b"', '"\\""', '"\\\\"', "()", '("x" (()) "y")'):
            self.check(desk_of(f"leaf x {text}"), ("build x", f"value {text}"))

    def test_build(self):
        desk = desk_of('leaf x "v"', f"rule main {RULE}", 'rule bad ("fault")', 'rule stuck ("text b bad" "ask a b")', "made ring ring",
                       'rule lacks ("text b q" "ask a b")')
        self.check(desk, ("build main", 'value "v"'), ("build q", "lack"), ("build bad", "fault told"), ("build stuck", "stuck bad"),
                   ("build ring", "stuck ring"), ("build lacks", "fault lack"),
                   ("build ring q main main bad x stuck", 'stuck ring\nlack\nvalue "v"\nvalue "v"\nfault told\nvalue "v"\nstuck bad'))

    def test_deeds(self):
        desk = desk_of('leaf x "v"', f"rule main {RULE}", 'rule bad ("fault")', 'rule stuck ("text b main" "ask a b" "text b bad" "ask a b")',
                       "made none q")
        self.check(desk, ("deeds", ""), ("build main", 'value "v"'), ("deeds", "done main 0 1"), ("build stuck none x", 'stuck bad\nfault lack\nvalue "v"'),
                   ("deeds", "done bad 0 0\nleft stuck 0 1\nnone none"), ("deeds", "done bad 0 0\nleft stuck 0 1\nnone none"),
                   ("build main", 'value "v"'), ("deeds", ""), ('leaf y ""', "done"), ("deeds", ""), ("build main stuck", 'value "v"\nstuck bad'),
                   ("deeds", "used main 1\nused bad 0\nleft stuck 0 1"), ("out y", "done"), ("deeds", "used main 1\nused bad 0\nleft stuck 0 1"))

    def test_deeds_of_a_walk_that_is_stuck(self):
        desk = desk_of('leaf x "v"', f"rule main {RULE}", "build main", "rule x ()", "build main")
        self.check(desk, ("deeds", "none x\nstuck main 0"))

    def test_deeds_behind_a_back(self):
        desk = desk_of('leaf x "v"', f"rule main {RULE}", 'rule b ("say a")', "build main", "build b")
        self.check(desk, ("deeds", "done b 0 0"), ("back", "done"), ("deeds", "done main 0 1"), ("keep", "1"), ("back", "done"), ("deeds", ""),
                   ("keep", "0"), ("build b", 'value ""'), ("deeds", "done b 0 0"))

    def test_paper(self):
        desk = desk_of('leaf x "v"', f"rule main {RULE}", f"leaf r {RULE}", "made m r", 'rule both ("text b m" "ask a b" "text b both" "ask a b")')
        self.check(desk, ("paper x", ""), ("paper q", ""), ("paper main", 'step main\nthing "x" "v"\nsaid "v"'),
                   ("paper both", f'step m\nrule "r" {RULE}\nthing "x" "v"\nsaid "v"\nstep both\nthing "m" "v"\nstuck both'))

    def test_chain(self):
        desk = desk_of('leaf x "v"', f"rule main {RULE}", 'rule bad ("fault")', 'rule s ("text b bad" "ask a b")', 'rule t ("text b s" "ask a b")',
                       "made a b", "made b c", "made c b", "made self self")
        self.check(desk, ("chain x", ""), ("chain q", ""), ("chain main", ""), ("chain bad", "bad"), ("chain s", "s bad"), ("chain t", "t s bad"),
                   ("chain self", "self ring self"), ("chain b", "b c ring b c"), ("chain a", "a b c ring b c"))

    def test_rounds(self):
        desk = desk_of('rule s ("say a")', 'rule t ("text b s" "ask a b" "say a")', 'leaf x ""', "made ring ring")
        self.check(desk, ("rounds x", ""), ("rounds x q", ""), ("rounds s", "s"), ("rounds t", "t\ns\nt"), ("rounds t s t", "s t\nt"),
                   ("rounds ring s", "ring s"))

    def test_foot(self):
        desk = desk_of('leaf x "v"', f"rule main {RULE}", 'rule h ("text b main" "ask a b" "text b z" "has c b" "say a")')
        self.check(desk, ("foot x", "x"), ("foot q", "q"), ("foot main", "main x"), ("foot h", "h main x"))

    def test_what_only_tells_is_no_deed(self):
        desk = desk_of('leaf x "v"', f"rule main {RULE}")
        for line in ("paper main", "chain main", "rounds main", "foot main", "keep", "deeds", "shelve s"):
            desk.asked(line)
        self.check(desk, ("keep", "0"), ("build main", 'value "v"'), ("deeds", "done main 0 1"), ("back", "done"), ("back", "done"),
                   ("back", "done"), ("back", "refused NoDeed"))


class Shelf(DeskCase):
    def test_a_copy_that_stays(self):
        desk = desk_of('leaf x "v"', f"rule main {RULE}", "shelve none", "build main", "shelve one", 'leaf x "w"', "build main")
        self.check(desk, ("keep", "2"), ("shelve two", "done"), ("back", "done"), ("back", "done"), ("back", "done"), ("keep", "0"),
                   ("take none", "0"), ("keep", "0"), ("take one", "1"), ("keep", "1"), ("take two", "2"), ("keep", "2"), ("take one", "1"),
                   ("keep", "2"), ("build main", 'value "v"'), ("deeds", "used main 1"))

    def test_put_there_again(self):
        desk = desk_of('leaf x "v"', f"rule main {RULE}", "shelve s", "build main", "shelve s", "back")
        self.check(desk, ("keep", "0"), ("take s", "1"), ("keep", "1"), ("back", "done"), ("shelve s", "done"), ("take s", "0"), ("keep", "0"))

    def test_what_is_not_there(self):
        self.check(desk_of("shelve s"), ("take t", "refused NoThing"), ("take s", "0"), ("back", "done"), ("back", "refused NoDeed"))

    def test_answers_stay_when_ways_are_taken(self):
        desk = desk_of('leaf x "v"', f"rule main {RULE}", "build main", "shelve s", 'leaf x "v"', 'leaf x "w"', "build main", "take s")
        self.check(desk, ("keep", "2"), ("deeds", "done main 1 1"), ("build main", 'value "w"'), ("deeds", ""))

    def test_its_names_are_not_those_of_things(self):
        desk = desk_of("shelve x")
        self.check(desk, ("build x", "lack"), ("out x", "refused NoThing"), ("take x", "0"))


class Back(DeskCase):
    def test_of_each_deed(self):
        ahead = ['leaf x "v"', f"rule main {RULE}", "build main", "shelve shelf", 'leaf x "w"', "build main x"]
        for line in ('leaf x "u"', 'leaf new ""', f"rule x {RULE}", "made main x", "out x", "out main", "take shelf", "build main", "build q"):
            desk = desk_of(*ahead)
            told = seen_of(desk)
            self.assertEqual(told, seen_of(desk))
            desk.asked(line)
            self.check(desk, ("back", "done"))
            self.assertEqual(seen_of(desk), told, line)

    def test_answers_are_as_ahead(self):
        desk = desk_of('leaf x "v"', f"rule main {RULE}", "build main", 'leaf y ""')
        self.check(desk, ("back", "done"), ("build main", 'value "v"'), ("deeds", ""), ("back", "done"), ("back", "done"),
                   ("build main", 'value "v"'), ("deeds", "done main 0 1"))

    def test_one_behind_the_other(self):
        lines = ['leaf x "v"', f"rule main {RULE}", "build main", "made m r", f"leaf r {RULE}", "build m", "out x", "build main m"]
        desks = [desk_of(*lines[:count], "shelve shelf") for count in range(len(lines) + 1)]
        desk = desk_of(*lines)
        for other in reversed(desks[:-1]):
            self.check(desk, ("back", "done"), ("shelve shelf", "done"))
            self.assertEqual(seen_of(desk), seen_of(other))
        self.check(desk, ("back", "refused NoDeed"), ("back", "refused NoDeed"), ('leaf x "v"', "done"), ("back", "done"), ("back", "refused NoDeed"))

    def test_what_was_built_and_taken(self):
        desk = desk_of('leaf x "v"', f"rule main {RULE}", "build main", "shelve s", "back", "take s")
        self.check(desk, ("keep", "1"), ("back", "done"), ("keep", "0"), ("build main", 'value "v"'), ("deeds", "done main 0 1"))


class Refused(DeskCase):
    NO_LINES = (
        "", " ", "leaf", "leaf x", "leaf x ", "leaf x v", 'leaf "v"', 'leaf x "v" ', ' leaf x "v"', 'leaf  x "v"', 'leaf x  "v"', 'leaf X "v"', 'Leaf x "v"',
        'LEAF x "v"', 'leaf x "v" "w"', 'leaf x "v', "leaf x %", 'leaf x "%"', 'leaf x ("a"  "b")', 'leaf x y', "rule x", "rule x y", 'rule "x"', "made x", "made x X",
        'made x "y"', "made x y z", "made  x y", "made x y ", "out", "out ", "out x x", "out X", 'out "x"', "Out x", " out x", "out  x", "build", "build ", "build x ",
        " build x", "build  x", "build x  x", "build x X", "build X x", "build x,x", "Build x", "BUILD x", "builds x", 'build "x"', "deeds x", "deeds ", " deeds", "Deeds",
        "deed", "paper", "paper x x", "paper ", "paper X", "Paper x", "papers x", "chain", "chain x x", "chain X", "chain x ", "rounds", "rounds ", "rounds X",
        "rounds x ", "rounds x  x", "Rounds x", "round x", "foot", "foot x x", "foot X", "foots x", "keep x", "keep ", " keep", "Keep", "shelve", "shelve x x",
        "shelve X", "shelve ", "Shelve x", "take", "take x x", "take X", "take ", "back x", "back ", " back", "Back", "BACK", "x", "done", "refused line", "wary", "leaf x\t\"v\"",
        "step x", 'said "v"', 'key x ("say a")', "lack x", "build 1x", "build " + "x" * 25, "build x\n", "keep\n", "\n", 'leaf x "\u00e9"', "deeds\r", "report x",
        'leaf x "' + "a" * 301 + '"')

    def test_lines_that_are_none(self):
        desk = desk_of('leaf x "v"', f"rule main {RULE}", "build main", "shelve shelf")
        told = seen_of(desk)
        for line in self.NO_LINES:
            self.check(desk, (line, "refused line"))
            self.assertEqual(seen_of(desk), told, line)
        self.check(desk, ("back", "done"), ("back", "done"), ("back", "done"), ("back", "refused NoDeed"))

    def test_what_a_deed_refuses(self):
        desk = desk_of('leaf x "v"', f"rule main {RULE}", "build main", "shelve shelf")
        told = seen_of(desk)
        for line in ("out q", "take q", "take x"):
            self.check(desk, (line, "refused NoThing"))
            self.assertEqual(seen_of(desk), told)
        self.check(desk, ("back", "done"), ("back", "done"), ("back", "done"), ("back", "refused NoDeed"))

    def test_the_sixty_first_name(self):
        desk = desk_of(*[f'leaf n{number} "{number}"' for number in range(60)])
        for line in ('leaf x ""', 'rule x ("say a")', "made x n1"):
            self.check(desk, (line, "refused BadThing"), ("build x", "lack"), ("back", "done"))
        self.check(desk, ('leaf n7 "other"', "done"), ("build n7", 'value "other"'), ("back", "done"), ("back", "done"), ("out n7", "done"),
                   ('leaf x ""', "done"), ('leaf n7 ""', "refused BadThing"), ("back", "done"), ("back", "done"), ("build n7", 'value "7"'))
        self.check(desk, *[("back", "done")] * 61, ("back", "refused NoDeed"))


class Run(DeskCase):
    def test_an_answer_for_each_line_end(self):
        self.assertEqual(Desk().run('leaf x "v"\nbuild x q\nkeep\n'), ("done", 'value "v"\nlack', "0"))
        self.assertEqual(Desk().run(""), ())

    def test_what_stands_behind_the_last_line_end(self):
        desk = Desk()
        self.assertEqual(desk.run('leaf x "v"\nleaf x "w"'), ("done",))
        self.assertEqual(desk.asked("build x"), 'value "v"')
        self.assertEqual(desk.run("build x"), ())
        self.assertEqual(desk.run("out x\n "), ("done",))

    def test_empty_lines(self):
        self.assertEqual(Desk().run("\n"), ("refused line",))
        self.assertEqual(Desk().run("\nkeep\n\n\nkeep\n"), ("refused line", "0", "refused line", "refused line", "0"))
        self.assertEqual(Desk().run("keep\r\nkeep\n"), ("refused line", "0"))

    def test_it_goes_on(self):
        desk = Desk()
        desk.run('leaf x "v"\n')
        self.assertEqual(desk.run("build x\nback\nback\nback\n"), ('value "v"', "done", "done", "refused NoDeed"))

    def test_desks_stand_apart(self):
        one = desk_of('leaf x "v"', "shelve s")
        self.check(Desk(), ("build x", "lack"), ("take s", "refused NoThing"))
        self.check(one, ("build x", 'value "v"'))


class ModelDesk:
    """A desk by the functions alone: all that it has is told by the plain answers and the ways put."""

    def __init__(self):
        self.state = (Project(()), Keep(), frozenset(), ())
        self.past = []
        self.shelf = {}

    def change(self, project):
        self.past.append(self.state)
        self.state = (project, self.state[1], frozenset(), self.state[3])
        return "done"

    def build(self, names):
        project, keep, known, built = self.state
        self.past.append(self.state)
        keep = keep.copy()
        deeds = []
        for name in names:
            fresh = [] if name in known else [met for met in met_by(project, name) if met not in known]
            for met in fresh:
                deeds.append(plain_deed(project, met, keep))
            for deed in deeds:
                if deed[0] == "done":
                    key, run = key_and_run(project, deed[1])
                    keep.put(*key, run, (0,))
            known |= {name, *fresh}
        self.state = (project, keep, known, tuple(deeds))
        return "\n".join(answer_line(answer_of(project, name)) for name in names)

    def take(self, name):
        if name not in self.shelf:
            return "refused NoThing"
        project, keep, known, built = self.state
        self.past.append(self.state)
        self.state = (project, put_all(keep, self.shelf[name])[0], known, built)
        return str(self.shelf[name].many())

    def back(self):
        if not self.past:
            return "refused NoDeed"
        self.state = self.past.pop()
        return "done"

    def out(self, name):
        try:
            return self.change(without(self.state[0], name))
        except NoThing:
            return "refused NoThing"

    def told(self, word, names):
        project, keep, known, built = self.state
        if word == "deeds":
            return "\n".join(" ".join(map(str, deed)) for deed in built)
        if word == "keep":
            return str(keep.many())
        if word == "paper":
            return paper_text(paper_of(project, names[0]))[:-1]
        if word == "foot":
            return " ".join(foot_of(project, names[0])[0])
        if word == "rounds":
            return "\n".join(" ".join(those) for those in rounds_of(project, names))
        chain, ring = chain_of(project, names[0])
        return " ".join(chain + (("ring",) + ring if ring else ()))


def answer_line(answer):
    return " ".join((answer[0], *(tree_text(part) if answer[0] == "value" else part for part in answer[1:])))


class Histories(DeskCase):
    def test_many(self):
        chance = random.Random(101)
        words = {}
        for step in range(60):
            names, project = chance.choice((some_project, layered_project, layered_project))(chance)
            desk = Desk()
            model = ModelDesk()
            for name, source in project.sources():
                self.assertEqual(desk.asked(project_text(Project(((name, source),)))[:-1]), model.change(with_source(model.state[0], name, source)))
            for turn in range(40):
                line, answer = self.some_line(chance, names, model)
                self.assertEqual(desk.asked(line), answer, line)
                words[line.split(" ")[0]] = words.get(line.split(" ")[0], 0) + 1
        for word in ("leaf", "rule", "made", "out", "build", "deeds", "paper", "chain", "rounds", "foot", "keep", "shelve", "take", "back"):
            self.assertGreater(words[word], 10, words)

    def some_line(self, chance, names, model):
        """A line, and the model's answer to it."""
        pick = chance.choice(("change", "change", "out", "build", "build", "build", "take", "shelve", "back", "none", "deeds", "deeds", "keep",
                              "paper", "chain", "rounds", "foot"))
        name = chance.choice(names)
        if pick == "change":
            make = chance.choice((lambda: some_source(chance, names), lambda: layered_source(chance, names, name)))
            pair = (name, make())
            return project_text(Project((pair,)))[:-1], model.change(with_source(model.state[0], *pair))
        if pick == "out":
            return f"out {name}", model.out(name)
        if pick in ("build", "rounds"):
            several = tuple(chance.choices(names, k=chance.randrange(1, 4)))
            return " ".join((pick,) + several), model.build(several) if pick == "build" else model.told(pick, several)
        if pick == "take":
            return f"take {name}", model.take(name)
        if pick == "shelve":
            model.shelf[name] = model.state[1].copy()
            return f"shelve {name}", "done"
        if pick == "back":
            return "back", model.back()
        if pick == "none":
            return chance.choice(Refused.NO_LINES), "refused line"
        return (pick, model.told(pick, ())) if pick in ("deeds", "keep") else (f"{pick} {name}", model.told(pick, (name,)))


if __name__ == "__main__":
    unittest.main()
