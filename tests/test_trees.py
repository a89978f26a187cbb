"""Promises 1.1 to 1.4: trees, how they are written, their order, and names."""

import random
import unittest

from askwright.errors import BadTree
from askwright.trees import is_ahead, is_name, is_tree, read_tree, tree_depth, tree_size, tree_text

ALLOWED = "".join(chr(number) for number in range(32, 127) if chr(number) != "%")
NO_TREES = (True, False, 0, 1, -3, 10 ** 29, None, [], ["a"], {}, {"a": "b"}, set(), b"a", 1.5, object())


def nested(depth):
    tree = ()
    for step in range(depth - 1):
        tree = (tree,)
    return tree


def some_tree(chance, depth):
    if depth == 1 or chance.random() < 0.5:
        return "".join(chance.choice(ALLOWED) for step in range(chance.randrange(6)))
    return tuple(some_tree(chance, depth - 1) for step in range(chance.randrange(4)))


def refused(test, text):
    with test.assertRaises(BadTree, msg=repr(text)):
        read_tree(text)


class IsTree(unittest.TestCase):
    def test_each_allowed_sign(self):
        self.assertEqual(len(ALLOWED), 94)
        self.assertIs(is_tree(ALLOWED), True)
        for sign in ALLOWED:
            self.assertIs(is_tree(sign), True, repr(sign))
            self.assertIs(is_tree((sign,)), True, repr(sign))

    def test_each_other_sign(self):
        others = [chr(number) for number in range(400) if chr(number) not in ALLOWED]
        for sign in others + ["\u2028", "\ud800", "\U0001f600", "\uff05", "\u0660"]:
            for text in (sign, "ab" + sign, sign + "ab", "a" + sign + "b"):
                self.assertIs(is_tree(text), False, repr(text))
                self.assertIs(is_tree(("a", text)), False, repr(text))
        for text in ("%", "50%", "a\n", "\n", "a\r", "\t", "\x7f", "\x1f"):
            self.assertIs(is_tree(text), False, repr(text))

    def test_signs_of_a_text(self):
        self.assertIs(is_tree(""), True)
        self.assertIs(is_tree("x" * 300), True)
        self.assertIs(is_tree("x" * 301), False)
        self.assertIs(is_tree(("x" * 300,)), True)
        self.assertIs(is_tree(("x" * 301,)), False)

    def test_parts_of_a_row(self):
        self.assertIs(is_tree(()), True)
        self.assertIs(is_tree(("",) * 40), True)
        self.assertIs(is_tree(("",) * 41), False)
        self.assertIs(is_tree(("a", ("",) * 40)), True)
        self.assertIs(is_tree(("a", ("",) * 41)), False)

    def test_size(self):
        great = ("x" * 299, "x" * 298)
        self.assertEqual(tree_size(great), 600)
        self.assertIs(is_tree(great), True)
        greater = ("x" * 299, "x" * 299)
        self.assertEqual(tree_size(greater), 601)
        self.assertIs(is_tree(greater), False)
        rows = (((),) * 39,) * 14 + (((),) * 38,)
        self.assertEqual(tree_size(rows), 600)
        self.assertIs(is_tree(rows), True)
        self.assertIs(is_tree(rows[:14] + (((),) * 39,)), False)

    def test_depth(self):
        self.assertIs(is_tree(nested(12)), True)
        self.assertIs(is_tree(nested(13)), False)
        text_within = "a"
        for step in range(11):
            text_within = (text_within,)
        self.assertEqual(tree_depth(text_within), 12)
        self.assertIs(is_tree(text_within), True)
        self.assertIs(is_tree((text_within,)), False)
        self.assertIs(is_tree(("a", nested(11))), True)
        self.assertIs(is_tree(("a", nested(12), "b")), False)

    def test_far_too_deep_and_far_too_great(self):
        self.assertIs(is_tree(nested(100000)), False)
        shared = ()
        for step in range(40):
            shared = (shared,) * 40
        self.assertIs(is_tree(shared), False)
        shared = ()
        for step in range(11):
            shared = (shared,) * 40
        self.assertIs(is_tree(shared), False)

    def test_other_kinds(self):
        for value in NO_TREES:
            self.assertIs(is_tree(value), False, repr(value))
            self.assertIs(is_tree((value,)), False, repr(value))
            self.assertIs(is_tree(("a", ("b", value))), False, repr(value))


class Measures(unittest.TestCase):
    def test_size(self):
        self.assertEqual(tree_size(""), 1)
        self.assertEqual(tree_size(()), 1)
        self.assertEqual(tree_size("abc"), 4)
        self.assertEqual(tree_size(("",)), 2)
        self.assertEqual(tree_size(("ab", (), ("c",))), 1 + 3 + 1 + 1 + 2)

    def test_depth(self):
        self.assertEqual(tree_depth(""), 1)
        self.assertEqual(tree_depth(()), 1)
        self.assertEqual(tree_depth("abc"), 1)
        self.assertEqual(tree_depth(("",)), 2)
        self.assertEqual(tree_depth(((),)), 2)
        self.assertEqual(tree_depth(("a", (), ("b", ((),)), "c")), 4)

    def test_somewhat_beyond_the_bounds(self):
        self.assertEqual(tree_size(("x" * 301, "y" * 301)), 605)
        self.assertEqual(tree_size(("",) * 45), 46)
        self.assertEqual(tree_depth(nested(13)), 13)
        self.assertEqual(tree_depth(nested(15)), 15)


class Written(unittest.TestCase):
    def test_texts(self):
        self.assertEqual(tree_text(""), '""')
        self.assertEqual(tree_text("a b"), '"a b"')
        self.assertEqual(tree_text('say "x"'), '"say \\"x\\""')
        self.assertEqual(tree_text("\\"), '"\\\\"')
        self.assertEqual(tree_text('\\"'), '"\\\\\\""')
        self.assertEqual(tree_text("(a) ()"), '"(a) ()"')

    def test_rows(self):
        self.assertEqual(tree_text(()), "()")
        self.assertEqual(tree_text(("a",)), '("a")')
        self.assertEqual(tree_text(("a", "b")), '("a" "b")')
        self.assertEqual(tree_text(((), ("a", ((), "")), " ")), '(() ("a" (() "")) " ")')

    def test_read_back(self):
        trees = ["", (), "\\", '"', '\\"', "\\\\", '"\\', " ", ALLOWED, "x" * 300, ("",) * 40, nested(12),
                 ("x" * 299, "x" * 298), ((), ()), ("a", ("b", ("c", "d"), ()), "e")]
        chance = random.Random(11)
        trees += [some_tree(chance, 5) for step in range(300)]
        for tree in trees:
            self.assertEqual(read_tree(tree_text(tree)), tree)


class NotWritten(unittest.TestCase):
    def test_told_ones(self):
        for text in ("", " ", "a", '"', '"a', 'a"', '""a', '"" ', ' ""', '"a""b"', '"a" "b"', "(", ")", "())",
                     "(()", "( )", " ()", "() ", '( "a")', '("a" )', '("a"  "b")', '("a""b")', '("a"()', "(a)",
                     "()()", "(()())", '("a",)', "'a'", '"\\"', '"\\', '"\\a"', '"\\n"', '"a\\"', "[]", "None",
                     '("a"\t"b")', '"%"', '"\n"', '"a\n"', '"\t"', '"a"\n', '\n"a"', '"\u00e9"', '"\x7f"', "\\"):
            refused(self, text)

    def test_written_of_what_is_no_tree(self):
        for value in ("x" * 301, ("",) * 41, ("x" * 299, "x" * 299), nested(13), ("a" * 100,) * 7):
            refused(self, tree_text(value))
        within = "a"
        for step in range(12):
            within = (within,)
        refused(self, tree_text(within))

    def test_thousands_of_brackets(self):
        refused(self, "(" * 5000 + ")" * 5000)
        refused(self, "(" * 5000)
        refused(self, ")" * 5000)
        refused(self, "(" * 4000 + '""' + ")" * 4000)
        refused(self, "(" + " ".join(["()"] * 5000) + ")")
        refused(self, '"' + "x" * 100000)

    def test_one_sign_otherwise(self):
        for tree in ("", (), 'a"\\', ("a", "b"), ('"', ((), ("\\",)))):
            text = tree_text(tree)
            for changed in sorted(self.changed_texts(text)):
                self.check_reads_just_what_is_written(changed)

    def changed_texts(self, text):
        found = set()
        for place in range(len(text) + 1):
            found.add(text[:place] + text[place + 1:])
            for sign in '"\\() a%\n':
                found.add(text[:place] + sign + text[place:])
                found.add(text[:place] + sign + text[place + 1:])
        return found

    def check_reads_just_what_is_written(self, text):
        try:
            tree = read_tree(text)
        except BadTree:
            return
        self.assertIs(is_tree(tree), True, repr(text))
        self.assertEqual(tree_text(tree), text)


class Order(unittest.TestCase):
    RISING = ("", " ", "1", "10", "2", "A", "a", "aa", "ab", "b", "~", (), ("",), ("", ""), ("", ()), ("a",),
              ("a", "a"), ("a", "b"), ("a", ()), ("aa",), ("b",), ((),), ((), ""), ((), ()), (("",),),
              (("a",), "a"), (("a",), ()), (("a", "a"),), (((),),))

    def test_both_ways_about(self):
        for place, one in enumerate(self.RISING):
            for other_place, other in enumerate(self.RISING):
                self.assertIs(is_ahead(one, other), place < other_place, (one, other))

    def test_random_trees(self):
        chance = random.Random(5)
        trees = [some_tree(chance, 4) for step in range(60)]
        for one in trees:
            for other in trees:
                self.assertEqual(is_ahead(one, other) + is_ahead(other, one), 0 if one == other else 1)


class Names(unittest.TestCase):
    def test_length(self):
        self.assertIs(is_name("a"), True)
        self.assertIs(is_name("a" * 24), True)
        self.assertIs(is_name("a" * 25), False)
        self.assertIs(is_name(""), False)

    def test_signs(self):
        within = "abcdefghijklmnopqrstuvwxyz0123456789./"
        for number in range(400):
            sign = chr(number)
            self.assertIs(is_name("a" + sign), sign in within, repr(sign))
            self.assertIs(is_name("a" + sign + "a"), sign in within, repr(sign))
            self.assertIs(is_name(sign), sign in within[:26], repr(sign))
            self.assertIs(is_name(sign + "a"), sign in within[:26], repr(sign))

    def test_some(self):
        for name in ("a.b/c", "x1", "z//..", "a0", "lib/main.o"):
            self.assertIs(is_name(name), True, name)
        for text in ("A", "aB", "a b", " a", "a ", "a\n", "\na", "a\n\n", ".a", "/a", "1a", "a-b", "a_b", "a\u0661",
                     "\u00e9", "a\u00b2", "a%"):
            self.assertIs(is_name(text), False, repr(text))

    def test_other_kinds(self):
        for value in NO_TREES + ((), ("a",), ["a"], ("a", "b")):
            self.assertIs(is_name(value), False, repr(value))


if __name__ == "__main__":
    unittest.main()
