"""Promises 2.1 and 2.2: rules and what is none."""

import unittest

from askwright.errors import BadRule
from askwright.rules import asking_lines, bad_line, is_rule, line_text, rule_rows
from askwright.trees import is_tree

BOXES = "abcdefgh"
ONE_BOX = ("self", "row", "say")
TWO_BOXES = ("copy", "put", "join", "first", "rest", "size", "ask", "has", "names")
THREE_BOXES = ("cut", "glue")
OTHER_KINDS = (True, False, None, 0, 1, 3.5, [], ["fault"], {}, {"fault": 1}, set(), b"fault", object())


class Rules(unittest.TestCase):
    def check_line(self, line, word, parts):
        self.assertIsNone(bad_line((line,)), line)
        self.assertIs(is_rule((line,)), True, line)
        self.assertEqual(rule_rows((line,)), ((word, parts),))
        self.assertEqual(line_text(word, parts), line)

    def check_bad(self, line):
        rule = ("fault", line, "fault")
        self.assertEqual(bad_line(rule), 2, repr(line))
        self.assertIs(is_rule(rule), False, repr(line))
        with self.assertRaises(BadRule):
            rule_rows(rule)

    def test_words_of_boxes(self):
        for word in ONE_BOX:
            for one in BOXES:
                self.check_line(f"{word} {one}", word, (one,))
        for word in TWO_BOXES:
            for one in BOXES:
                for two in BOXES:
                    self.check_line(f"{word} {one} {two}", word, (one, two))
        for word in THREE_BOXES:
            for one in BOXES:
                self.check_line(f"{word} {one} b h", word, (one, "b", "h"))
                self.check_line(f"{word} a {one} h", word, ("a", one, "h"))
                self.check_line(f"{word} a b {one}", word, ("a", "b", one))
        self.check_line("fault", "fault", ())

    def test_text(self):
        for words in ("", " ", "x", " x", "x ", "a b  c", "   ", "text a b", '"\\(', "03", "x" * 293):
            self.check_line(f"text c {words}", "text", ("c", words))

    def test_jumps(self):
        self.check_line("go 1", "go", (1,))
        self.check_line("like a b 1", "like", ("a", "b", 1))
        self.check_line("rowed c 1", "rowed", ("c", 1))
        self.check_line("none h 1", "none", ("h", 1))

    def test_numbers_of_lines(self):
        for count in (1, 2, 9, 10, 39, 40):
            for start in ("go", "like a b", "rowed c", "none d"):
                self.check_numbers(start, count)

    def check_numbers(self, start, count):
        rest = ("fault",) * (count - 1)
        for number in range(1, count + 1):
            rule = (f"{start} {number}",) + rest
            self.assertIsNone(bad_line(rule))
            self.assertEqual(rule_rows(rule)[0][1][-1], number)
            self.assertNotIsInstance(rule_rows(rule)[0][1][-1], (str, bool))
        for wrong in ("0", str(count + 1), "01", f"0{count}", "-1", "+1", "1.", "1 ", " 1", "", "a", "1_0", "9" * 200):
            rule = (f"{start} {wrong}",) + rest
            self.assertEqual(bad_line(rule), 1, rule[0])
            with self.assertRaises(BadRule):
                rule_rows(rule)

    def test_counts_of_lines(self):
        for count in (1, 2, 40):
            rule = ("fault",) * count
            self.assertIs(is_rule(rule), True)
            self.assertEqual(rule_rows(rule), (("fault", ()),) * count)
        rule = ("fault",) * 41
        self.assertIs(is_rule(rule), False)
        self.assertEqual(bad_line(rule), 1)
        with self.assertRaises(BadRule):
            rule_rows(rule)

    def test_told_as_tuples(self):
        rule = ("text a x y", "ask b a", "like a b 4", "say b")
        self.assertEqual(rule_rows(rule), (("text", ("a", "x y")), ("ask", ("b", "a")),
                                           ("like", ("a", "b", 4)), ("say", ("b",))))
        self.assertEqual(tuple(line_text(word, parts) for word, parts in rule_rows(rule)), rule)

    def test_asking_lines(self):
        self.assertEqual(asking_lines(("fault",)), ())
        self.assertEqual(asking_lines(("ask a b",)), (1,))
        self.assertEqual(asking_lines(("text a ask a b", "names a b", "say a", "has a b", "ask a b", "go 1")), (2, 4, 5))
        self.assertEqual(asking_lines(("has h h",) * 40), tuple(range(1, 41)))

    def test_too_few_and_too_many_parts(self):
        lines = ["text", "text a", "fault ", "fault a", "go", "go ", "go 1 1", "like a b", "like a 1", "like a b 1 1",
                 "like a b c", "rowed 1", "rowed a", "rowed a b", "rowed a 1 1", "none 1", "none a", "none a b 1"]
        for words, boxes in ((ONE_BOX, "a"), (TWO_BOXES, "ab"), (THREE_BOXES, "abc")):
            for word in words:
                lines.append(" ".join([word] + list(boxes[1:])))
                lines.append(" ".join([word] + list(boxes) + ["d"]))
                lines.append(" ".join([word] + list(boxes[1:]) + ["1"]))
        for line in lines:
            self.check_bad(line)

    def test_other_words_and_boxes(self):
        for line in ("", " ", "a", "Fault", "faults", "faul", "asks a b", "name a b", "say i", "say A", "say ab", "say 1",
                     "say", "say ", "self a ", "copy a i", "copy z a", "text i x", "text ab x", "text A x", "text  x",
                     "cut a b i", "say \u00e4", "box a b", "words a", "line 1"):
            self.check_bad(line)

    def test_blanks_more_or_fewer(self):
        for line in (" fault", "fault ", " say a", "say  a", "say a ", "saya", "copy  a b", "copy a  b", "copy a b ",
                     "copy ab", "go  1", "go1", "text  a x", " text a x", "texta x", "like a b  1", "say\ta", "fault\n"):
            self.check_bad(line)

    def test_parts_that_are_no_texts(self):
        for value in OTHER_KINDS + ((), ("fault",), ("text a x",)):
            self.check_bad(value)
        self.assertEqual(bad_line(("fault", ("a",), "nothing")), 2)

    def test_the_first_bad_line(self):
        self.assertEqual(bad_line(("x", "y", "z")), 1)
        self.assertEqual(bad_line(("fault",) * 39 + ("x",)), 40)
        self.assertEqual(bad_line(("fault", "go 4", "x")), 2)
        self.assertEqual(bad_line(("go 3", "go 3", "x")), 3)

    def test_texts_that_no_tree_has(self):
        for line in ("text a " + "x" * 294, "text a 5%", "text a \n", "text a \u00e9", "text a \t"):
            self.check_bad(line)

    def test_what_is_no_row(self):
        for value in OTHER_KINDS + ("", "fault", "say a", ()):
            self.assertEqual(bad_line(value), 1, repr(value))
            self.assertIs(is_rule(value), False, repr(value))
            with self.assertRaises(BadRule):
                rule_rows(value)

    def test_right_lines_in_a_row_that_is_no_tree(self):
        line = "text a " + "x" * 289
        great = (line, line, "go 1")
        self.assertIs(is_tree(great), True)
        self.assertIs(is_rule(great), True)
        for rule in ((line, line, "say a"), (line,) * 3, ("text a " + "x" * 8,) * 40):
            self.assertIs(is_tree(rule), False)
            self.assertIs(is_rule(rule), False)
            self.assertEqual(bad_line(rule), 1)
            with self.assertRaises(BadRule):
                rule_rows(rule)


if __name__ == "__main__":
    unittest.main()
