"""Promises 11.3 and 11.4: rounds, and how deep a thing lies."""

import itertools
import random
import unittest

from askwright.errors import BadName
from askwright.house import House
from askwright.keeps import Keep
from askwright.plain import chain_of, full_run
from askwright.rounds import depth_of, rounds_of
from askwright.weave import Weave
from helpers import NO_NAMES, asks_for, has_rule, layered_project, next_news, passes_on, project_of, some_project

FAULT = ("rule", ("fault",))
SAYS = ("rule", ("say a",))
RULE = ("text b x", "ask a b", "say a")
PROJECT = project_of(
    x=("leaf", "v"), s=SAYS, t=SAYS, one=passes_on("s"), two=passes_on("one"), both=asks_for("s", "t"),
    wide=asks_for("both", "one", "x", "s"), ring=passes_on("gnir"), gnir=passes_on("ring"), out=asks_for("s", "ring"),
    self=passes_on("self"), bad=FAULT, stuck=asks_for("s", "bad"), after=passes_on("stuck"), r=("leaf", RULE),
    m=("made", "r"), mm=("made", "s"), ms=("made", "ms"), mbad=("made", "bad"), no=("rule", "no"), lacks=passes_on("q"),
    looks=("rule", ("text b s", "has a b", "names c b", "say c")))


class Rounds(unittest.TestCase):
    def check_rounds(self, names, *rounds):
        self.assertEqual(rounds_of(PROJECT, names), rounds)

    def test_of_what_needs_none(self):
        self.check_rounds(())
        self.check_rounds(("x",))
        self.check_rounds(("q", "x", "r", "x"))

    def test_of_one_stretch(self):
        self.check_rounds(("s",), ("s",))
        self.check_rounds(("looks",), ("looks",))
        self.check_rounds(("no",), ("no",))
        self.check_rounds(("t", "lacks", "s", "x", "s", "bad"), ("bad", "lacks", "s", "t"))

    def test_of_chains(self):
        self.check_rounds(("one",), ("one",), ("s",), ("one",))
        self.check_rounds(("two",), ("two",), ("one",), ("s",), ("one",), ("two",))
        self.check_rounds(("two", "s"), ("s", "two"), ("one",), ("two",))
        self.check_rounds(("both",), ("both",), ("s",), ("both",), ("t",), ("both",))

    def test_of_things_that_share(self):
        self.check_rounds(("one", "both"), ("both", "one"), ("s",), ("both", "one"), ("t",), ("both",))
        self.check_rounds(("s", "t", "both", "one"), ("both", "one", "s", "t"), ("both", "one"))

    def test_of_rings(self):
        self.check_rounds(("self",), ("self",))
        self.check_rounds(("ring",), ("ring",), ("gnir",))
        self.check_rounds(("gnir", "ring"), ("gnir", "ring"))
        self.check_rounds(("out",), ("out",), ("s",), ("out",), ("ring",), ("gnir",))
        self.check_rounds(("ms",), ("ms",))

    def test_of_what_is_stuck(self):
        self.check_rounds(("stuck",), ("stuck",), ("s",), ("stuck",), ("bad",), ("stuck",))
        self.check_rounds(("after", "bad", "s"), ("after", "bad", "s"), ("stuck",), ("after",))

    def test_of_made_things(self):
        self.check_rounds(("m",), ("m",))
        self.check_rounds(("mm",), ("mm",), ("s",), ("mm",))
        self.check_rounds(("mbad", "m"), ("m", "mbad"), ("bad",), ("mbad",))

    def test_bad_names(self):
        for name in NO_NAMES:
            for names in ((name,), ("s", name), (name, "s"), ("x", "q", name)):
                with self.assertRaises(BadName) as caught:
                    rounds_of(PROJECT, names)
                self.assertIs(caught.exception.__class__, BadName)


class Depths(unittest.TestCase):
    def test_of_each_kind(self):
        for name, depth in (("x", 0), ("q", 0), ("r", 0), ("s", 1), ("looks", 1), ("no", 1), ("bad", 1), ("lacks", 1),
                            ("one", 3), ("two", 5), ("both", 5), ("stuck", 5), ("after", 7), ("m", 1), ("mm", 3), ("mbad", 3),
                            ("wide", 9)):
            self.assertEqual(depth_of(PROJECT, name), depth, name)

    def test_of_what_never_ends(self):
        for name in ("ring", "gnir", "out", "self", "ms"):
            self.assertIsNone(depth_of(PROJECT, name))

    def test_bad_names(self):
        for name in NO_NAMES:
            with self.assertRaises(BadName) as caught:
                depth_of(PROJECT, name)
            self.assertIs(caught.exception.__class__, BadName)


def asked_for(project, name):
    """The things with a rule or made source that a thing asked for, that too at which it is stuck."""
    asks, end = full_run(project, name)
    names = [ask[1] for ask, answer in asks if ask[0] in ("thing", "rule")]
    names += [end[1]] if end[0] == "stuck" else []
    return [other for other in names if has_rule(project, other)]


def model_rounds(project, names):
    """All rounds, each with those that ended in it, told by the full runs."""
    ended = []
    waits = {}
    demanded = {name for name in names if has_rule(project, name)}
    rounds = []
    while True:
        free = sorted(name for name in demanded if name not in ended and waits.get(name) in [None, *ended])
        if not free:
            return rounds
        news = {name: next_news(project, name, ended) for name in free}
        over = [name for name in free if news[name][0] == "ended"]
        ended += over
        waits.update({name: news[name][1] for name in free if name not in over})
        demanded |= {waits[name] for name in free if name not in over}
        rounds.append((tuple(free), over))


def fewest_rounds(project, names):
    """The fewest rounds, whatever is let go in each, by trying all choices level by level."""
    def free_of(state):
        ended, waits = state
        waited = dict(waits)
        return [name for name in waited if name not in ended and (waited[name] is None or waited[name] in ended)]

    level = {(frozenset(), tuple(sorted({name: None for name in names if has_rule(project, name)}.items())))}
    count = 0
    while all(free_of(state) for state in level):
        below = set()
        for ended, waits in level:
            free = free_of((ended, waits))
            for size in range(1, len(free) + 1):
                for chosen in itertools.combinations(free, size):
                    waited = dict(waits)
                    over = set(ended)
                    for name in chosen:
                        word, other = next_news(project, name, ended)
                        if word == "ended":
                            over.add(name)
                        else:
                            waited[name] = other
                            waited.setdefault(other, None)
                    below.add((frozenset(over), tuple(sorted(waited.items()))))
        level = below
        count += 1
    return count


class ManyRounds(unittest.TestCase):
    def test_as_the_full_runs_tell(self):
        chance = random.Random(43)
        depths = {}
        for step in range(200):
            names, project = chance.choice((some_project, layered_project))(chance)
            picked = tuple(chance.choices(names, k=chance.randrange(1, 5)))
            rounds = model_rounds(project, picked)
            self.assertEqual(rounds_of(project, picked), tuple(free for free, over in rounds))
            self.check_ends(project, rounds)
            for name in names:
                depth = self.model_depth(project, name)
                self.assertEqual(depth_of(project, name), depth)
                self.assertEqual(depth is None, chain_of(project, name)[1] != ())
                depths[depth] = depths.get(depth, 0) + 1
        for depth in (None, 0, 1, 3, 5):
            self.assertGreater(depths[depth], 10, depth)

    def check_ends(self, project, rounds):
        when = {name: number for number, (free, over) in enumerate(rounds, 1) for name in over}
        for name in when:
            for other in asked_for(project, name):
                self.assertGreater(when[name], when[other])

    def model_depth(self, project, name):
        if not has_rule(project, name):
            return 0
        for number, (free, over) in enumerate(model_rounds(project, (name,)), 1):
            if name in over:
                return number
        return None

    def test_no_other_choice_is_shorter(self):
        chance = random.Random(47)
        for step in range(40):
            names, project = chance.choice((some_project, layered_project))(chance)
            picked = tuple(chance.choices(names, k=chance.randrange(1, 4)))
            self.assertEqual(len(rounds_of(project, picked)), fewest_rounds(project, picked))

    def test_some_choices_of_a_weaving(self):
        chance = random.Random(53)
        longer = 0
        for step in range(200):
            names, project = chance.choice((some_project, layered_project))(chance)
            picked = tuple(chance.choices(names, k=3))
            weave = Weave(project, Keep(), picked, 0)
            count = 0
            while weave.can_go():
                weave.go_round(tuple(name for name in weave.can_go() if chance.random() < 0.6))
                count += 1
            self.assertGreaterEqual(count, len(rounds_of(project, picked)))
            longer += count > len(rounds_of(project, picked))
        self.assertGreater(longer, 50)

    def test_whatever_is_kept(self):
        chance = random.Random(59)
        for step in range(100):
            names, project = chance.choice((some_project, layered_project))(chance)
            house = House(project, Keep(), 0)
            house.answers(tuple(names[::2]))
            weave = Weave(project, house.keep(), tuple(names), 0)
            rounds = []
            while weave.can_go():
                rounds.append(weave.can_go())
                weave.go_round(weave.can_go())
            self.assertEqual(rounds_of(project, tuple(names)), tuple(rounds))


if __name__ == "__main__":
    unittest.main()
