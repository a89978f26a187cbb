"""Promises 3.1 to 3.5: machines, their asks, ends and faults."""

import unittest

from askwright.errors import BadAnswer, BadName, BadRule, NoAsk
from askwright.machine import Machine, does, replayed
from askwright.trees import tree_depth, tree_size

OTHER_KINDS = (True, False, 0, 7, [], ["a"], {}, set(), b"a", 1.5, object())


def end_of(*lines):
    return Machine(tuple(lines), "own").now()


def said(*lines):
    """What a rule of these lines says, its box a said behind them."""
    end = end_of(*lines, "say a")
    return end[1] if end[0] == "said" else end


def fed(lines, answers):
    """The end of a rule with some answers."""
    machine = Machine(tuple(lines), "own")
    for answer in answers:
        machine.answer(answer)
    return machine.now()


KIND = ("fault", "kind")
NAMES_ASK = ("names", "")
BIG = ("fault", "big")
# Boxes that hold: b "", c "xyz", d (), e ("xyz", ""), and f a row within a row.
HELD = ("text c xyz", "row d", "row e", "put e c", "put e b", "row f", "put f e", "put f c")
TREES = {"b": "", "c": "xyz", "d": (), "e": ("xyz", ""), "f": (("xyz", ""), "xyz")}


def held_said(line):
    return said(*HELD, line)


class Lines(unittest.TestCase):
    def test_boxes_hold_the_empty_text_at_first(self):
        for box in "abcdefgh":
            self.assertEqual(end_of(f"say {box}"), ("said", ""))

    def test_what_the_boxes_hold(self):
        for box, tree in TREES.items():
            self.assertEqual(held_said(f"copy a {box}"), tree)

    def test_text_and_self(self):
        for words in ("", "x", " ", " two  words ", '"\\'):
            self.assertEqual(said(f"text a {words}"), words)
        self.assertEqual(said("self a"), "own")
        self.assertEqual(Machine(("self h", "say h"), "x/1.y").now(), ("said", "x/1.y"))

    def test_row_and_copy(self):
        self.assertEqual(said("row a"), ())
        self.assertEqual(said("text a x", "copy a a"), "x")
        self.assertEqual(said("text b x", "copy a b", "text b y"), "x")

    def test_put(self):
        self.assertEqual(said("row a", "put a b"), ("",))
        for box, tree in TREES.items():
            self.assertEqual(said(*HELD, "row a", f"put a {box}"), (tree,))
            self.assertEqual(said(*HELD, "copy a e", f"put a {box}"), ("xyz", "", tree))
        for box in "bc":
            self.assertEqual(said(*HELD, f"put {box} d"), KIND)

    def test_put_into_itself(self):
        self.assertEqual(said("row a", "put a a"), ((),))
        self.assertEqual(said("row a", "put a b", "put a a"), ("", ("",)))
        self.assertEqual(said("text a x", "put a a"), KIND)

    def test_join(self):
        self.assertEqual(held_said("join a c"), "xyz")
        self.assertEqual(said("text a ab", "text b cd", "join a b"), "abcd")
        self.assertEqual(said("text a ab", "join a a"), "abab")
        self.assertEqual(held_said("join a b"), "")
        for line in ("join a d", "join a e", "join d a", "join e c", "join d d"):
            self.assertEqual(held_said(line), KIND)

    def test_first_and_rest(self):
        self.assertEqual(held_said("first a c"), "x")
        self.assertEqual(held_said("rest a c"), "yz")
        self.assertEqual(held_said("first a e"), "xyz")
        self.assertEqual(held_said("rest a e"), ("",))
        self.assertEqual(held_said("first a f"), ("xyz", ""))
        self.assertEqual(held_said("rest a f"), ("xyz",))
        self.assertEqual(said("text b x", "first a b"), "x")
        self.assertEqual(said("text b x", "rest a b"), "")
        self.assertEqual(said("row b", "put b c", "first a b"), "")
        self.assertEqual(said("row b", "put b c", "rest a b"), ())
        self.assertEqual(said("text a xy", "rest a a"), "y")
        for word in ("first", "rest"):
            self.assertEqual(held_said(f"{word} a b"), KIND)
            self.assertEqual(held_said(f"{word} a d"), KIND)

    def test_size(self):
        for box, count in (("b", "0"), ("c", "3"), ("d", "0"), ("e", "2"), ("f", "2")):
            self.assertEqual(held_said(f"size a {box}"), count)
        self.assertEqual(said("text b " + "x" * 12, "size a b"), "12")

    def test_cut(self):
        for whole, between, pieces in (("a,b,c", ",", ("a", "b", "c")), (",a,", ",", ("", "a", "")), ("", ",", ("",)),
                                       ("abc", ",", ("abc",)), (",", ",", ("", "")), ("aaaaa", "aa", ("", "", "a")),
                                       ("ababa", "aba", ("", "ba")), ("a  b", " ", ("a", "", "b")),
                                       ("xx", "xx", ("", "")), ("x", "xx", ("x",)), ("x<>y<>", "<>", ("x", "y", ""))):
            self.assertEqual(said(f"text b {whole}", f"text c {between}", "cut a b c"), pieces)
        self.assertEqual(said("text a a-b", "text b -", "cut a a b"), ("a", "b"))
        for line in ("cut a c b", "cut a c d", "cut a c e", "cut a d c", "cut a f c", "cut a b b"):
            self.assertEqual(held_said(line), KIND, line)

    def test_glue(self):
        rows = ("row b", "text c x", "put b c", "text c y", "put b c", "text c ")
        self.assertEqual(said(*rows, "text d -", "glue a b d"), "x-y")
        self.assertEqual(said(*rows, "glue a b c"), "xy")
        self.assertEqual(said(*rows, "text d , and ", "glue a b d"), "x, and y")
        self.assertEqual(held_said("glue a d c"), "")
        self.assertEqual(held_said("glue a e c"), "xyzxyz")
        for line in ("glue a b c", "glue a c b", "glue a f b", "glue a e d", "glue a d d", "glue a d e"):
            self.assertEqual(held_said(line), KIND, line)

    def test_jumps(self):
        self.assertEqual(end_of("go 3", "fault", "say a"), ("said", ""))
        for line, goes in (("like b g 3", True), ("like c b 3", False), ("like d b 3", False), ("like d d 3", True),
                           ("like e f 3", False), ("rowed b 3", False), ("rowed c 3", False), ("rowed d 3", True),
                           ("rowed e 3", True), ("none b 3", True), ("none c 3", False), ("none d 3", True),
                           ("none e 3", False), ("none f 3", False)):
            number = len(HELD) + 4
            rule = HELD + (line.replace("3", str(number)), "text a stays", "say a", "text a goes", "say a")
            self.assertEqual(end_of(*rule), ("said", "goes" if goes else "stays"), line)

    def test_like_looks_at_trees_not_boxes(self):
        self.assertEqual(end_of("row a", "row b", "put a c", "put b c", "like a b 7", "fault", "say a"), ("said", ("",)))

    def test_jumps_back(self):
        rule = ("text a xxxxx", "text c .", "none a 7", "rest a a", "join b c", "go 3", "say b")
        machine = Machine(rule, "own")
        self.assertEqual(machine.now(), ("said", "....."))
        self.assertEqual(machine.lines(), 2 + 5 * 4 + 2)

    def test_say_and_fault(self):
        for box, tree in TREES.items():
            self.assertEqual(end_of(*HELD, f"say {box}"), ("said", tree))
        self.assertEqual(end_of("fault"), ("fault", "told"))
        self.assertEqual(end_of("fault", "say a"), ("fault", "told"))


class Asks(unittest.TestCase):
    def test_the_three_kinds(self):
        for word, kind in (("ask", "thing"), ("has", "has"), ("names", "names")):
            self.assertEqual(end_of("text b x.y", f"{word} a b"), ("asks", (kind, "x.y")))
        for text in ("", " ", "No name!", "x" * 290):
            self.assertEqual(end_of(f"text b {text}", "names a b"), ("asks", ("names", text)))

    def test_answers_go_into_the_box(self):
        for answer in ("", "x", (), ("a", ("b",)), "yes"):
            self.assertEqual(fed(("text b x", "ask a b", "say a"), (answer,)), ("said", answer))
        for answer in ("yes", "no"):
            self.assertEqual(fed(("text b x", "has b b", "say b"), (answer,)), ("said", answer))
        for answer in ((), ("a",), ("b", "a", "a"), ("n",) * 40):
            self.assertEqual(fed(("names a b", "say a"), (answer,)), ("said", answer))

    def test_a_thing_that_is_not_there(self):
        machine = Machine(("text b x", "ask a b", "say a"), "own")
        self.assertIsNone(machine.answer(None))
        self.assertEqual(machine.now(), ("fault", "lack"))
        self.assertEqual(machine.asked(), ((("thing", "x"), None),))
        self.assertEqual(machine.lines(), 2)

    def test_the_next_ask_hangs_on_the_answers(self):
        rule = ("text b x", "ask c b", "ask d c", "say d")
        self.assertEqual(fed(rule, ("y",)), ("asks", ("thing", "y")))
        self.assertEqual(fed(rule, ("z", "w")), ("said", "w"))
        self.assertEqual(fed(rule, ("No name",)), ("fault", "name"))


class Faults(unittest.TestCase):
    def test_kind_ahead_of_name_and_big(self):
        self.assertEqual(held_said("names a d"), KIND)
        self.assertEqual(held_said("names a e"), KIND)
        deep = ("row a",) + ("copy b a", "row a", "put a b") * 11
        self.assertEqual(end_of(*deep, "text c x", "put c a"), KIND)
        self.assertEqual(end_of(*deep, "row c", "put c a"), BIG)
        long = ("text a " + "x" * 150, "join a a")
        self.assertEqual(end_of(*long, "row b", "join a b"), KIND)
        self.assertEqual(end_of(*long, "join a a"), BIG)
        self.assertEqual(end_of(*long, "row b", "put b a", "glue c b b"), KIND)

    def test_name(self):
        for box in "bdef":
            self.assertEqual(held_said(f"ask a {box}"), ("fault", "name"), box)
            self.assertEqual(held_said(f"has a {box}"), ("fault", "name"), box)
        for text in ("", "A", "1", "a b", "x" * 25, "."):
            self.assertEqual(end_of(f"text b {text}", "ask a b"), ("fault", "name"))
            self.assertEqual(end_of(f"text b {text}", "has a b"), ("fault", "name"))
        self.assertEqual(end_of("text b " + "x" * 24, "has a b"), ("asks", ("has", "x" * 24)))

    def test_signs_of_a_text(self):
        start = ("text a " + "x" * 100, "copy b a", "join a b", "join a b")
        self.assertEqual(said(*start), "x" * 300)
        self.assertEqual(said(*start, "text c ", "join a c"), "x" * 300)
        self.assertEqual(said(*start, "text c y", "join a c"), BIG)

    def test_glued_signs(self):
        start = ("text a " + "x" * 100, "row b", "put b a", "put b a")
        self.assertEqual(said(*start, "text c " + "y" * 100, "glue a b c"), "x" * 100 + "y" * 100 + "x" * 100)
        self.assertEqual(said(*start, "text c " + "y" * 101, "glue a b c"), BIG)

    def test_parts_of_a_row(self):
        rule = ("row a", "put a b", "size c a", "text d 40", "like c d 7", "go 2", "say a")
        self.assertEqual(end_of(*rule), ("said", ("",) * 40))
        self.assertEqual(end_of(*rule[:3], "text d 41", *rule[4:]), BIG)

    def test_pieces_of_a_cut(self):
        self.assertEqual(said("text b " + "," * 39, "text c ,", "cut a b c"), ("",) * 40)
        self.assertEqual(said("text b " + "," * 40, "text c ,", "cut a b c"), BIG)

    def test_depth(self):
        def deepened(times):
            return ("row a",) + ("copy b a", "row a", "put a b") * times
        tree = said(*deepened(11))
        self.assertEqual(tree_depth(tree), 12)
        self.assertEqual(said(*deepened(12)), BIG)

    def test_size(self):
        start = ("text b " + "x" * 199, "row a", "put a b", "put a b")
        tree = said(*start, "text b " + "x" * 198, "put a b")
        self.assertEqual(tree_size(tree), 600)
        self.assertEqual(said(*start, "put a b"), BIG)

    def test_a_box_stays_where_the_line_faults(self):
        self.assertEqual(end_of("text a x", "put a a", "say a"), KIND)

    def test_silent(self):
        for rule in (("row a",), ("go 2", "self a"), ("like a b 2", "none a 3", "row b")):
            machine = Machine(rule, "own")
            self.assertEqual(machine.now(), ("fault", "silent"))
            self.assertEqual(machine.lines(), len(rule))
        self.assertEqual(fed(("names a b",), ((),)), ("fault", "silent"))

    def test_long(self):
        machine = Machine(("go 1",), "own")
        self.assertEqual(machine.now(), ("fault", "long"))
        self.assertEqual(machine.lines(), 300)

    def test_just_three_hundred_lines(self):
        for done in (297, 298, 299, 300, 301, 302):
            self.check_long(done, "say d", ("said", ""))
            self.check_long(done, "fault", ("fault", "told"))
            self.check_long(done, "put b b", KIND)
            self.check_long(done, "ask c d", ("fault", "name"))
            self.check_long(done, "names c d", ("asks", ("names", "")))

    def check_long(self, done, last, end):
        machine = Machine(spun(done, last), "own")
        if done >= 300:
            self.assertEqual((machine.now(), machine.lines()), (("fault", "long"), 300))
        else:
            waits = end[0] == "asks"
            self.assertEqual((machine.now(), machine.lines()), (end, done if waits else done + 1))

    def test_silent_behind_just_three_hundred_lines(self):
        for done in (298, 299, 300, 301):
            machine = Machine(spun(done, None), "own")
            end = ("fault", "silent") if done <= 300 else ("fault", "long")
            self.assertEqual((machine.now(), machine.lines()), (end, min(done, 300)))

    def test_the_three_hundredth_line_waits(self):
        machine = Machine(spun(299, "names c d"), "own")
        self.assertEqual((machine.now(), machine.lines()), (("asks", ("names", "")), 299))
        machine.answer(())
        self.assertEqual((machine.now(), machine.lines()), (("fault", "silent"), 300))
        machine = Machine(spun(299, "ask c g"), "own")
        self.assertEqual((machine.now(), machine.lines()), (("asks", ("thing", "own")), 299))
        machine.answer(None)
        self.assertEqual((machine.now(), machine.lines()), (("fault", "lack"), 300))

    def test_lines_where_it_waits_and_where_it_ended(self):
        machine = Machine(("text b x", "ask a b", "has c b", "say a"), "own")
        self.assertEqual(machine.lines(), 1)
        machine.answer("y")
        self.assertEqual(machine.lines(), 2)
        machine.answer("no")
        self.assertEqual(machine.lines(), 4)
        self.assertEqual(Machine(("fault",), "own").lines(), 1)
        self.assertEqual(Machine(("row a", "join a b"), "own").lines(), 2)
        self.assertEqual(Machine(("row a", "ask b a"), "own").lines(), 2)


def spun(done, last):
    """A rule that does just so many lines ahead of its last one (none where it is None)."""
    rounds = (done - 10) // 3
    spare = done - 3 - 3 * rounds - 1
    rule = ["self g", "text e " + "x" * rounds, "row f", "none e 7", "rest e e", "go 4"] + ["copy h h"] * spare
    assert 0 <= spare <= 30 and len(rule) < 40
    return tuple(rule + ([] if last is None else [last]))


class Machines(unittest.TestCase):
    RULE = ("text b x", "ask c b", "has d b", "text e ", "names f e", "like d e 1", "say f")
    ANSWERS = ("tree", "yes", ("x", "y"))
    ASKS = ((("thing", "x"), "tree"), (("has", "x"), "yes"), (("names", ""), ("x", "y")))

    def test_asked(self):
        machine = Machine(self.RULE, "own")
        for place, answer in enumerate(self.ANSWERS):
            self.assertEqual(machine.asked(), self.ASKS[:place])
            self.assertEqual(machine.now(), ("asks", self.ASKS[place][0]))
            self.assertIsNone(machine.answer(answer))
        self.assertEqual(machine.asked(), self.ASKS)
        self.assertEqual(machine.now(), ("said", ("x", "y")))

    def test_refused_beginnings(self):
        for rule in OTHER_KINDS + (None, "", "fault", (), ("x",), ("fault",) * 41, (3,), ("go 2",)):
            for own in ("own", "", "Own", None, 4, ["a"]):
                for begun in (lambda: Machine(rule, own), lambda: replayed(rule, own, ()),
                              lambda: does(rule, own, ((), ("said", "")))):
                    self.assertRaises(BadRule, begun)
        for own in OTHER_KINDS + (None, "", "Own", "a b", "x" * 25, (), ("a",)):
            for begun in (lambda: Machine(("fault",), own), lambda: replayed(("fault",), own, ()),
                          lambda: does(("fault",), own, ((), ("fault", "told")))):
                self.assertRaises(BadName, begun)

    def state(self, machine):
        return (machine.now(), machine.asked(), machine.lines())

    def check_refused(self, machine, answer, error):
        ahead = self.state(machine)
        with self.assertRaises(error, msg=repr(answer)):
            machine.answer(answer)
        self.assertEqual(self.state(machine), ahead)

    def test_no_ask_ahead_of_bad_answer(self):
        for rule in (("fault",), ("say a",), ("row a",), ("go 1",)):
            machine = Machine(rule, "own")
            for answer in ("x", (), None, 4, "%", ["a"]):
                self.check_refused(machine, answer, NoAsk)

    def test_bad_answers(self):
        no_trees = OTHER_KINDS + ("%", "a\n", "x" * 301, ("",) * 41, (4,), (None,), ("a", ["b"]))
        for rule, others in ((("self b", "ask a b", "say a"), ()),
                             (("self b", "has a b", "say a"), (None, "", "Yes", "yes ", "y", (), ("yes",))),
                             (("names a b", "say a"), (None, "", "a", ("A",), ("a", ""), ("a", ("b",)), ((),),
                                                       ("x" * 24,) * 25, ("a",) * 41))):
            machine = Machine(rule, "own")
            for answer in no_trees + others:
                self.check_refused(machine, answer, BadAnswer)

    def test_goes_on_behind_a_refusal(self):
        machine = Machine(self.RULE, "own")
        for answer in self.ANSWERS:
            self.check_refused(machine, 5, BadAnswer)
            machine.answer(answer)
        self.check_refused(machine, "x", NoAsk)
        self.assertEqual(machine.now(), ("said", ("x", "y")))

    def test_copy(self):
        for count in range(4):
            machine = Machine(self.RULE, "own")
            for answer in self.ANSWERS[:count]:
                machine.answer(answer)
            self.check_copy(machine, count)

    def check_copy(self, machine, count):
        ahead = self.state(machine)
        other = machine.copy()
        self.assertIsInstance(other, Machine)
        self.assertEqual(self.state(other), ahead)
        for answer in self.ANSWERS[count:]:
            other.answer(answer)
        self.assertEqual(self.state(machine), ahead)
        self.assertEqual(self.state(other), (("said", ("x", "y")), self.ASKS, 7))
        third = machine.copy()
        for answer in self.ANSWERS[count:]:
            machine.answer(answer)
        self.assertEqual(self.state(third), ahead)
        self.assertEqual(self.state(machine), self.state(other))

    def test_a_copy_has_boxes_of_its_own(self):
        rule = ("self b", "row c", "ask a b", "put c a", "go 3")
        machine = Machine(rule, "own")
        other = machine.copy()
        machine.answer("x")
        other.answer("y")
        self.assertEqual(machine.asked(), ((("thing", "own"), "x"),))
        self.assertEqual(other.asked(), ((("thing", "own"), "y"),))

    def test_the_same_asked_again(self):
        machine = Machine(self.RULE, "own")
        self.assertEqual(self.state(machine), self.state(machine))
        self.assertEqual(self.state(machine), self.state(Machine(self.RULE, "own")))


class Replayed(unittest.TestCase):
    RULE = Machines.RULE
    ANSWERS = Machines.ANSWERS
    ASKS = Machines.ASKS

    def test_too_few(self):
        for count in range(3):
            self.assertEqual(replayed(self.RULE, "own", self.ANSWERS[:count]),
                             (self.ASKS[:count], ("asks", self.ASKS[count][0]), 0))

    def test_just_enough_and_too_many(self):
        for further in ((), ("x",), (None, 5, "%")):
            self.assertEqual(replayed(self.RULE, "own", self.ANSWERS + further),
                             (self.ASKS, ("said", ("x", "y")), len(further)))
        self.assertEqual(replayed(("fault",), "own", (4, None)), ((), ("fault", "told"), 2))

    def test_lack(self):
        self.assertEqual(replayed(self.RULE, "own", (None, "yes")), (((("thing", "x"), None),), ("fault", "lack"), 1))

    def test_bad_answers(self):
        for answers in ((4,), ("tree", None), ("tree", "maybe"), ("tree", "yes", ("A",)), ("%", "yes")):
            self.assertRaises(BadAnswer, replayed, self.RULE, "own", answers)

    def test_does_its_own_run(self):
        self.assertIs(does(self.RULE, "own", (self.ASKS, ("said", ("x", "y")))), True)
        lack = ((("thing", "x"), None),)
        self.assertIs(does(self.RULE, "own", (lack, ("fault", "lack"))), True)
        self.assertIs(does(("say a",), "own", ((), ("said", ""))), True)
        self.assertIs(does(("go 1",), "own", ((), ("fault", "long"))), True)
        self.assertIs(does(("self a", "say a"), "own", ((), ("said", "own"))), True)
        self.assertIs(does(("self a", "say a"), "other", ((), ("said", "own"))), False)

    def test_does_no_other_end(self):
        for end in (("said", ("x",)), ("said", "x"), ("said", ()), ("fault", "told"), ("fault", "lack"),
                    ("asks", ("thing", "x"))):
            self.assertIs(does(self.RULE, "own", (self.ASKS, end)), False)

    def test_does_no_other_asks(self):
        end = ("said", ("x", "y"))
        one, two, three = self.ASKS
        for asks in ((), (one,), (one, two), (two, three), (one, three), (two, one, three), (one, one, two, three),
                     (one, two, three, three), (one, two, two, three),
                     ((("thing", "y"), "tree"), two, three), ((("has", "x"), "tree"), two, three),
                     ((("rule", "x"), "tree"), two, three), (one, two, (("names", "x"), ("x", "y")))):
            self.assertIs(does(self.RULE, "own", (asks, end)), False, asks)

    def test_does_no_other_answers(self):
        end = ("said", ("x", "y"))
        one, two, three = self.ASKS
        for asks in ((one, two, (three[0], ("x",))), (one, (two[0], "maybe"), three), (one, (two[0], None), three),
                     ((one[0], None), two, three), (one, two, (three[0], "x")), (one, two, (three[0], ("X",)))):
            self.assertIs(does(self.RULE, "own", (asks, end)), False, asks)

    def test_a_refused_answer_is_not_passed_over(self):
        one, two, three = self.ASKS
        for answer in ("maybe", None, ()):
            self.assertIs(does(self.RULE, "own", ((one, (two[0], answer), two, three), ("said", ("x", "y")))), False)
        self.assertIs(does(self.RULE, "own", ((one, two, three, (NAMES_ASK, "x")), ("said", ("x", "y")))), False)

    def test_what_waits_has_no_end(self):
        self.assertIs(does(self.RULE, "own", (self.ASKS[:1], ("asks", ("has", "x")))), False)


if __name__ == "__main__":
    unittest.main()
