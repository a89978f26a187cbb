"""Promises 8.3 to 8.5: right papers, what they show, and where others are wrong."""

import random
import unittest

from askwright.errors import BadName
from askwright.judge import first_wrong, shown
from askwright.papers import paper_of, put_together
from askwright.plain import answer_of, full_run, met_by, value_of
from askwright.project import with_source
from askwright.trees import is_name
from helpers import NO_NAMES, asks_for, passes_on, project_of, some_project

FAULT = ("rule", ("fault",))
RULE = ("text b x", "ask a b", "say a")
# Asks of each kind, in this order: a thing that said, a leaf, a lack's has, names.
WIDE = ("text b sub", "ask a b", "text b x", "ask b b", "text c q", "has c c", "text d s", "names d d", "say d")
PROJECT = project_of(x=("leaf", "v"), r=("leaf", RULE), sub=passes_on("x"), wide=("rule", WIDE), made=("made", "r"),
                     bad=FAULT, stuck=asks_for("sub", "bad"), no=("rule", "no"), lacks=passes_on("q"),
                     ring=passes_on("gnir"), gnir=passes_on("ring"), out=asks_for("sub", "ring"), made2=("made", "q"),
                     made3=("made", "made3"), made4=("made", "x"), made5=("made", "bad"), silent=("rule", ("row a",)),
                     made6=("made", "rr"), rr=("rule", ("row a", "text b fault", "put a b", "say a")))
RUN_NAMES = ("sub", "wide", "made", "bad", "stuck", "no", "lacks", "ring", "gnir", "out", "made2", "made3", "made4", "made5",
             "silent", "made6", "rr")


def with_step(paper, name, asks=None, end=None):
    """The paper with the step of that name put otherwise."""
    return tuple((step[0], step[1] if asks is None else asks, step[2] if end is None else end) if step[0] == name else step
                 for step in paper)


def step_of(name):
    return (name,) + full_run(PROJECT, name)


class RightPapers(unittest.TestCase):
    def check_right(self, paper):
        self.assertIsNone(first_wrong(PROJECT, paper))

    def test_of_each_name(self):
        for name in RUN_NAMES + ("x", "r", "q"):
            self.check_right(paper_of(PROJECT, name))
        self.check_right(())

    def test_in_any_right_order(self):
        sub, bad, stuck = paper_of(PROJECT, "stuck")
        for paper in ((bad, sub, stuck), (sub, stuck, bad)):
            self.check_right(paper)
        gnir, ring = paper_of(PROJECT, "ring")
        out = step_of("out")
        for paper in ((gnir, ring), (ring, gnir), (sub, out, ring, gnir), (ring, sub, out, gnir)):
            self.check_right(paper)
        self.check_right((step_of("made5"), bad))

    def test_put_together(self):
        for one in RUN_NAMES:
            for other in RUN_NAMES:
                self.check_right(put_together(paper_of(PROJECT, one), paper_of(PROJECT, other)))


class WrongPapers(unittest.TestCase):
    def check_wrong(self, paper, place, word, project=PROJECT):
        self.assertEqual(first_wrong(project, paper), (place, word), paper)
        for name in ("x", "q", "sub", "wide"):
            self.assertIsNone(shown(project, paper, name))

    def test_a_name_again(self):
        sub = step_of("sub")
        self.check_wrong((sub, sub), 1, "name")
        self.check_wrong((sub, ("sub", (), ("fault", "told"))), 1, "name")
        self.check_wrong(paper_of(PROJECT, "wide") + (sub,), 2, "name")

    def test_a_name_without_such_a_source(self):
        for name in ("x", "r", "q", "", "X", "No name", "~" * 400, "made7"):
            self.check_wrong(((name, (), ("fault", "told")),), 0, "name")
            self.check_wrong((step_of("sub"), (name, ((("odd", ""), None),), ("stuck", "q"))), 1, "name")

    def test_answers(self):
        wide = paper_of(PROJECT, "wide")
        right = step_of("wide")[1]
        others = ((None, "w", (), "q"), (None, "", ("v",), "V"), (None, "yes", "", ("no",)),
                  (None, (), ("sub", "silent", "stuck"), ("silent", "stuck"), "s"))
        for place, answers in enumerate(others):
            for answer in answers:
                asks = right[:place] + ((right[place][0], answer),) + right[place + 1:]
                self.check_wrong(with_step(wide, "wide", asks=asks), 1, "answer")
        self.check_wrong((("lacks", ((("thing", "q"), ""),), ("said", "")),), 0, "answer")

    def test_answers_of_made_things(self):
        for name, answer in (("made", None), ("made", RULE[1:]), ("made2", RULE), ("made4", None), ("made4", "w")):
            paper = paper_of(PROJECT, name)
            rule = PROJECT.source_of(name)[1]
            self.check_wrong(with_step(paper, name, asks=((("rule", rule), answer),) + paper[-1][1][1:]), 0, "answer")

    def test_what_has_no_answer(self):
        for ask in (("odd", "x"), ("", "x"), ("Thing", "x"), ("asks", "x"), ("thing", ""), ("thing", "X"), ("has", "a b"),
                    ("rule", "R"), ("thing", "x" * 25), ("has", ""), ("said", "v"), ("odd", "")):
            for answer in (None, "v", "no", "yes", ()):
                self.check_wrong((("sub", ((ask, answer),), ("said", "v")),), 0, "answer")
                self.check_wrong((("sub", ((("thing", "x"), "v"), (ask, answer)), ("said", "v")),), 0, "answer")

    def test_an_answer_must_be_an_earlier_steps(self):
        sub, wide = paper_of(PROJECT, "wide")
        self.check_wrong((wide,), 0, "answer")
        self.check_wrong((wide, sub), 0, "answer")
        bad = step_of("bad")
        for answer in (None, "told", ""):
            self.check_wrong((sub, bad, ("stuck", ((("thing", "sub"), "v"), (("thing", "bad"), answer)), ("said", ())),), 2, "answer")
        self.check_wrong((step_of("made6"), step_of("rr")), 0, "answer")
        self.check_wrong((("ring", ((("thing", "ring"), "v"),), ("said", "v")),), 0, "answer")

    def test_asks_put_otherwise(self):
        sub, wide = paper_of(PROJECT, "wide")
        asks = wide[1]
        more = (("thing", "x"), "v")
        for other in (asks[1:], asks[:-1], asks[:1] + asks[2:], asks[::-1], (asks[1], asks[0]) + asks[2:], asks + (more,),
                      (more,) + asks, asks[:2] + (more,) + asks[2:], asks[:2] + asks[1:], (), asks[:3] + ((("names", "S "), ()),),
                      ((("has", "sub"), "yes"),) + asks[1:], ((("rule", "sub"), "v"),) + asks[1:],
                      asks[:3] + ((("names", "sub"), ("sub",)),), asks[:3] + ((("names", "S\n" * 300), ()),)):
            self.check_wrong((sub, (wide[0], other, wide[2])), 1, "run")

    def test_an_ask_for_a_rule(self):
        made = step_of("made")
        rule_ask, thing_ask = made[1]
        for asks in ((thing_ask, rule_ask), (thing_ask,), (rule_ask, rule_ask, thing_ask), (rule_ask, thing_ask, rule_ask),
                     ((("thing", "r"), RULE), thing_ask), ((("rule", "x"), "v"), rule_ask, thing_ask),
                     ((("rule", "q"), None),), ((("rule", "x"), "v"),), (rule_ask,), ()):
            self.check_wrong((("made", asks, made[2]),), 0, "run")
        self.check_wrong((("sub", (rule_ask, (("thing", "x"), "v")), ("said", "v")),), 0, "run")
        self.check_wrong((("sub", ((("rule", "x"), "v"),), ("said", "v")),), 0, "run")
        self.check_wrong((("bad", (rule_ask,), ("fault", "told")),), 0, "run")

    def test_ends(self):
        ends = (("said", "v"), ("said", ""), ("said", ()), ("said", "w"), ("fault", "told"), ("fault", "lack"), ("fault", "rule"),
                ("fault", "silent"), ("fault", "odd"), ("fault", ""), ("odd", "v"), ("", ""), ("value", "v"), ("stuck", "x"),
                ("stuck", "v"), ("stuck", "X y"), ("asks", ("thing", "x")), ("stuck", ("ring",)), ("fault", ("told",)), ("lack", ""))
        for name in RUN_NAMES:
            paper = paper_of(PROJECT, name)
            for end in ends:
                if name in ("ring", "gnir") and end[0] == "said":
                    # Then the other one of the ring, which stands ahead, is not stuck any more.
                    self.check_wrong(with_step(paper, name, end=end), 0, "stuck")
                elif end != paper[-1][2]:
                    self.check_wrong(with_step(paper, name, end=end), len(paper) - 1, "run")

    def test_an_end_written_like_a_machine_that_waits(self):
        self.check_wrong((("sub", (), ("asks", ("thing", "x"))),), 0, "run")
        self.check_wrong((("ring", (), ("asks", ("thing", "gnir"))), step_of("gnir")), 0, "run")

    def test_what_has_no_rule_to_run(self):
        more = ((("thing", "x"), "v"),)
        for name in ("no", "made2", "made4"):
            asks, end = full_run(PROJECT, name)
            self.check_wrong(((name, asks + more, end),), 0, "run")
            self.check_wrong(((name, asks, ("fault", "lack" if end[1] == "rule" else "rule")),), 0, "run")
            self.check_wrong(((name, asks, ("stuck", "x")),), 0, "run")
        self.check_wrong((("made2", (), ("fault", "lack")),), 0, "run")
        self.check_wrong((("made4", (), ("stuck", "r")),), 0, "run")

    def test_stuck_at_another_name(self):
        sub, bad, stuck = paper_of(PROJECT, "stuck")
        for name in ("sub", "x", "q", "stuck", "ring"):
            self.check_wrong((sub, bad, ("stuck", stuck[1], ("stuck", name))), 2, "run")
        self.check_wrong((sub, ("stuck", (), ("stuck", "bad")), bad), 1, "run")
        self.check_wrong((("sub", ((("thing", "x"), "v"),), ("stuck", "x")),), 0, "run")
        self.check_wrong((("made5", (), ("stuck", "made5")),), 0, "run")
        self.check_wrong((bad, ("made5", (), ("stuck", "sub")), sub), 1, "run")
        wide = ("wide", step_of("wide")[1][:2], ("stuck", "q"))
        self.check_wrong((sub, wide), 1, "run")

    def test_stuck_at_what_is_no_step(self):
        sub, bad, stuck = paper_of(PROJECT, "stuck")
        self.check_wrong((sub, stuck), 1, "stuck")
        self.check_wrong((step_of("ring"),), 0, "stuck")
        self.check_wrong((step_of("made5"),), 0, "stuck")
        self.check_wrong((("sub", (), ("stuck", "x")),), 0, "stuck")
        self.check_wrong((("lacks", (), ("stuck", "q")),), 0, "stuck")
        self.check_wrong((("made", (), ("stuck", "r")),), 0, "stuck")
        self.check_wrong((("made2", (), ("stuck", "q")),), 0, "stuck")

    def test_stuck_at_one_that_said(self):
        sub = step_of("sub")
        self.check_wrong((sub, ("wide", (), ("stuck", "sub"))), 1, "stuck")
        self.check_wrong((("wide", (), ("stuck", "sub")), sub), 0, "stuck")
        self.check_wrong((("made6", (), ("stuck", "rr")), step_of("rr")), 0, "stuck")

    def test_of_several_steps_of_a_name_the_first_counts(self):
        sub = step_of("sub")
        lie = ("sub", (), ("fault", "told"))
        stuck = ("wide", (), ("stuck", "sub"))
        self.check_wrong((stuck, sub, lie), 0, "stuck")
        self.check_wrong((stuck, lie, sub), 1, "run")
        self.check_wrong((sub, stuck, lie), 1, "stuck")

    def test_the_first_step_goes_first(self):
        sub, wide = paper_of(PROJECT, "wide")
        wrong_run = ("sub", sub[1], ("said", "w"))
        self.check_wrong((wrong_run, wide), 0, "run")
        self.check_wrong((wrong_run, ("x", (), ("said", ""))), 0, "run")
        self.check_wrong((("x", (), ("said", "")), wrong_run), 0, "name")

    def test_the_first_look_goes_first(self):
        self.check_wrong((("x", ((("thing", "q"), "v"),), ("stuck", "q")),), 0, "name")
        self.check_wrong((("sub", ((("thing", "q"), "v"),), ("stuck", "q")),), 0, "answer")
        self.check_wrong((("sub", ((("thing", "q"), None), (("thing", "x"), "w")), ("stuck", "q")),), 0, "answer")
        self.check_wrong((("sub", ((("thing", "q"), None),), ("stuck", "q")),), 0, "run")

    def test_for_another_project(self):
        paper = paper_of(PROJECT, "wide")
        for name, source, place, word in (("x", ("leaf", "w"), 0, "answer"), ("q", ("leaf", ""), 1, "answer"),
                                          ("s", FAULT, 1, "answer"), ("sub", ("leaf", "v"), 0, "name"),
                                          ("sub", passes_on("r"), 0, "run"), ("wide", ("made", "r"), 1, "run")):
            self.check_wrong(paper, place, word, with_source(PROJECT, name, source))


class Shown(unittest.TestCase):
    def test_each_name_of_a_right_paper(self):
        for name in RUN_NAMES:
            paper = paper_of(PROJECT, name)
            for met, asks, end in paper:
                self.assertEqual(shown(PROJECT, paper, met), answer_of(PROJECT, met))

    def test_leaves_and_lacks_without_a_step(self):
        for paper in ((), paper_of(PROJECT, "wide")):
            self.assertEqual(shown(PROJECT, paper, "x"), ("value", "v"))
            self.assertEqual(shown(PROJECT, paper, "q"), ("lack",))
            self.assertEqual(shown(PROJECT, paper, "lackslacks"), ("lack",))

    def test_what_has_no_step(self):
        for name in RUN_NAMES:
            self.assertIsNone(shown(PROJECT, (), name))
        self.assertIsNone(shown(PROJECT, paper_of(PROJECT, "sub"), "wide"))

    def test_bad_names_go_first(self):
        for name in NO_NAMES:
            for paper in ((), paper_of(PROJECT, "wide"), (("x", (), ("said", "")),)):
                self.assertRaises(BadName, shown, PROJECT, paper, name)


def wrong_by_full_runs(project, paper):
    """Where a paper is wrong, told by the plain full runs: up to there each step is the name's full run, or stuck early."""
    names = [step[0] for step in paper]
    for place, (name, asks, end) in enumerate(paper):
        source = project.source_of(name)
        if name in names[:place] or source is None or source[0] == "leaf":
            return (place, "name")
        if not all(is_answered(project, names[:place], pair) for pair in asks):
            return (place, "answer")
        full = full_run(project, name)
        following = full[0][len(asks):len(asks) + 1]
        early = end[0] == "stuck" and full[0][:len(asks)] == asks and following and following[0][0] in (
            ("thing", end[1]), ("rule", end[1]))
        if (asks, end) != full and not early:
            return (place, "run")
        if end[0] == "stuck" and (end[1] not in names or paper[names.index(end[1])][2][0] == "said"):
            return (place, "stuck")
    return None


def is_answered(project, earlier, pair):
    (kind, text), answer = pair
    if kind == "names":
        return answer == project.looked_up(("names", text))
    if not is_name(text) or kind not in ("thing", "rule", "has"):
        return False
    if kind == "has":
        return answer == project.looked_up(("has", text))
    source = project.source_of(text)
    if source is not None and source[0] != "leaf" and text not in earlier:
        return False
    return answer == value_of(project, text) and (answer is not None or source is None)


def turned(chance, paper, names):
    """A paper with one thing put otherwise."""
    steps = list(paper)
    place = chance.randrange(len(steps))
    name, asks, end = steps[place]
    way = chance.choice(("leave out", "exchange", "twice", "name", "end", "asks", "asks", "ask"))
    if way == "leave out":
        steps.pop(place)
    elif way == "exchange":
        other = chance.randrange(len(steps))
        steps[place], steps[other] = steps[other], steps[place]
    elif way == "twice":
        steps.insert(chance.randrange(len(steps) + 1), steps[place])
    elif way == "name":
        steps[place] = (chance.choice(names + ["Odd", "q"]), asks, end)
    elif way == "end":
        steps[place] = (name, asks, chance.choice((("said", "x"), ("fault", "told"), ("fault", "rule"), ("odd", "odd"),
                                                   ("stuck", chance.choice(names)), ("stuck", chance.choice(names)))))
    elif way == "ask" and asks:
        at = chance.randrange(len(asks))
        fresh = chance.choice((((chance.choice(("thing", "has", "names", "rule", "odd")), asks[at][0][1]), asks[at][1]),
                               ((asks[at][0][0], chance.choice(names + ["Odd"])), asks[at][1]),
                               (asks[at][0], chance.choice((None, "", "yes", "no", "x", ())))))
        steps[place] = (name, asks[:at] + (fresh,) + asks[at + 1:], end)
    else:
        at = chance.randrange(len(asks) + 1)
        cut = asks[:at]
        stuck = ("stuck", asks[at][0][1] if at < len(asks) else chance.choice(names))
        steps[place] = chance.choice(((name, cut, end), (name, cut, stuck), (name, asks[:at] + asks[at + 1:], end)))
    return tuple(steps)


class ManyPapers(unittest.TestCase):
    def test_right_ones(self):
        chance = random.Random(5)
        for step in range(80):
            names, project = some_project(chance)
            papers = [paper_of(project, name) for name in names]
            paper = ()
            for other in chance.sample(papers, len(papers)):
                paper = put_together(paper, other)
                self.assertIsNone(first_wrong(project, paper))
            for name in names:
                self.assertEqual(shown(project, paper, name), answer_of(project, name))

    def test_one_thing_put_otherwise(self):
        chance = random.Random(6)
        words = {}
        for step in range(200):
            names, project = some_project(chance)
            for name in names:
                paper = paper_of(project, name)
                for turn in range(5 if paper else 0):
                    fresh = turned(chance, paper, names)
                    wrong = first_wrong(project, fresh)
                    self.assertEqual(wrong, wrong_by_full_runs(project, fresh), (project.sources(), fresh))
                    words[wrong and wrong[1]] = words.get(wrong and wrong[1], 0) + 1
                    if wrong is None:
                        self.check_least(project, fresh)
        for word in ("name", "answer", "run", "stuck", None):
            self.assertGreater(words[word], 100, word)

    def check_least(self, project, paper):
        """A right paper shows plain answers and has all steps of the papers of what it shows."""
        names = [step[0] for step in paper]
        for name in names:
            self.assertEqual(shown(project, paper, name), answer_of(project, name))
            self.assertLessEqual(set(met_by(project, name)), set(names))


if __name__ == "__main__":
    unittest.main()
