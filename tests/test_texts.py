"""[12.1] to [12.3]: texts of books, values and cases, written and read."""

import copy
import random
import unittest

from samples import (ANY, HUGE, LEAF, LEAFED, MIXED, NODE, RACKS, TREES, chance_cases, chance_value, nested_value, node,
                     numbers_either)
from shapecourt.cases import is_cases
from shapecourt.errors import NoText
from shapecourt.kinds import is_book
from shapecourt.shapes import is_shape
from shapecourt.texts import read_book, read_cases, read_value, written_book, written_cases, written_value
from shapecourt.values import depth_of, is_value

TREE_TEXT = "tree = leaf | node(tree num tree)"
# Words of the texts themselves are names here; if and to are makes.
WORDS = (("to", (("to", ()), ("if", ("to", "to")), ("num", ("num",)))), ("any", (("either", ("any",)), ("held", ()))))
NO_TEXTS = (None, 0, 5, -3, True, False, (), ("leaf",), [], ["leaf"], {}, b"leaf", b"", ("tree = leaf",), TREES)
SIGNS = " \n!()*+,-./0159:;<=>?@AZ[]_`aglnotxz{|}~"
X = ("held", "x", ANY)


def row(shape, answer=("num", 0), *guard):
    return (shape, guard, answer)


def cases_with(*rows, first="tree", second="num"):
    return (first, second, rows)


def beside(chance, text):
    """A text with one sign more, fewer or another, or two of them exchanged."""
    at = chance.randrange(len(text) + 1)
    other = chance.choice(SIGNS)
    return chance.choice((text[:at] + other + text[at:], text[:at] + text[at + 1:], text[:at] + other + text[at + 1:],
                          text[:at] + text[at + 1:at + 2] + text[at:at + 1] + text[at + 2:], text[:at], text[at:]))


def all_beside(text):
    """Each text with one sign fewer, more, or another one."""
    found = [text[:at] + text[at + 1:] for at in range(len(text))]
    for sign in SIGNS:
        found += [text[:at] + sign + text[at:] for at in range(len(text) + 1)]
        found += [text[:at] + sign + text[at + 1:] for at in range(len(text))]
    return [other for other in found if other != text]


class TextTest(unittest.TestCase):
    def assert_refused(self, function, *arguments):
        with self.assertRaises(NoText):
            function(*arguments)

    def assert_exact(self, read, write, is_one, text):
        """What reads is written just so; else it is refused."""
        try:
            thing = read(text)
        except NoText:
            return 0
        self.assertTrue(is_one(thing))
        self.assertEqual(write(thing), text)
        return 1


class TestBooks(TextTest):
    PAIRS = ((TREE_TEXT, TREES), ("a = b", (("a", (("b", ()),)),)),
             ("a = a(num); b = c(a num b a) | d | e(b)",
              (("a", (("a", ("num",)),)), ("b", (("c", ("a", "num", "b", "a")), ("d", ()), ("e", ("b",)))))),
             ("abcdefgh = ijklmnop(abcdefgh)", (("abcdefgh", (("ijklmnop", ("abcdefgh",)),)),)),
             ("to = to | if(to to) | num(num); any = either(any) | held", WORDS))

    def test_written(self):
        for text, book in self.PAIRS:
            self.assertTrue(is_book(book))
            self.assertEqual(written_book(book), text)

    def test_read(self):
        for text, book in self.PAIRS:
            self.assertEqual(read_book(text), book)
        for book in (MIXED, RACKS, WORDS):
            self.assertEqual(read_book(written_book(book)), book)

    def test_the_largest(self):
        kinds = [("k" + letter, tuple((letter + other, ("num",) * 4) for other in "abcdef")) for letter in "abcdef"]
        self.assertEqual(read_book(written_book(tuple(kinds))), tuple(kinds))
        self.assert_refused(read_book, written_book(tuple(kinds) + (("more", (("m", ()),)),)))
        self.assert_refused(read_book, written_book((("k", kinds[0][1] + (("m", ()),)),)))
        self.assert_refused(read_book, written_book((("k", (("m", ("num",) * 5),)),)))

    def test_what_reads_but_is_none(self):
        for text in ("num = a", "a = b(c)", "a = b; a = c", "a = b | b", "a = b; c = b", "abcdefghi = b", "a = bcdefghij",
                     "a = b(abcdefghi)"):
            self.assert_refused(read_book, text)

    def test_what_is_written_otherwise(self):
        for text in ("", " ", "tree", "tree = ", "tree =", "= leaf", "tree = leaf ", " tree = leaf", "tree= leaf", "tree =leaf",
                     "tree  = leaf", "tree = leaf()", "tree = leaf( num)", "tree = leaf(num )", "tree = leaf(num  num)",
                     "tree = leaf(num,num)", "tree = leaf (num)", "tree = leaf| node", "tree = leaf |node", "tree = leaf | ",
                     "tree = leaf;", "tree = leaf; ", "tree = leaf;b = c", "tree = leaf\n", "Tree = leaf", "tree = le4f",
                     "tree = leaf(num", "tree = leaf num)", "tree = leaf(num))", "tree = leaf; = b", "tree = leaf || b",
                     "tree = leaf((num))", "tree == leaf", "tr\u00e9e = leaf"):
            self.assert_refused(read_book, text)

    def test_things_that_are_no_texts(self):
        for thing in NO_TEXTS:
            self.assert_refused(read_book, thing)

    def test_many_brackets(self):
        for count in (1001, 3900, 100000):
            self.assert_refused(read_book, "a = " + "b(" * count + "num" + ")" * count)
            self.assert_refused(read_book, "(" * count)
            self.assert_refused(read_book, "a = b" + "(" * count + ")" * count)

    def test_each_sign_counts(self):
        count = 0
        for text in (TREE_TEXT, "a = b(a num) | c; d = e"):
            for other in all_beside(text):
                count += self.assert_exact(read_book, written_book, is_book, other)
        self.assertGreater(count, 20)


class TestValues(TextTest):
    PAIRS = ((0, "0", "num"), (7, "7", "num"), (-3, "-3", "num"), (HUGE, "9" * 60, "num"), (-HUGE, "-" + "9" * 60, "num"),
             (LEAF, "leaf", "tree"), (("node", LEAF, -3, LEAF), "node(leaf -3 leaf)", "tree"),
             (("tip", ("case", 1, 20), 0), "tip(case(1 20) 0)", "tree"), (("grey", 4), "grey(4)", "pick"),
             (("both", ("node", LEAF, 0, ("tip", ("case", -1, 0), 5)), ("case", 0, 0), ("red",), 9),
              "both(node(leaf 0 tip(case(-1 0) 5)) case(0 0) red 9)", "pair"))

    def assert_exact_value(self, kind, text):
        return self.assert_exact(lambda told: read_value(MIXED, kind, told), written_value,
                                 lambda value: is_value(MIXED, kind, value) and depth_of(value) <= 30, text)

    def test_written_and_read(self):
        for value, text, kind in self.PAIRS:
            self.assertEqual(written_value(value), text)
            self.assertEqual(read_value(MIXED, kind, text), value)

    def test_numbers(self):
        for text in ("1" * 70, "-" + "1" * 70, "9" * 70, "-" + "9" * 70, "10", "-10", "1" + "0" * 69):
            self.assertEqual(read_value(MIXED, "num", text), int(text))
            self.assertEqual(read_value(MIXED, "pick", "grey(" + text + ")"), ("grey", int(text)))
        for text in ("", "-", "--1", "-0", "00", "01", "-01", "+1", "+0", " 1", "1 ", "1_0", "1.0", "1e3", "0x1", "1,0", "a1",
                     "1a", "1-", "1" * 71, "-" + "1" * 71, "1" * 200, "1" * 3999, "0" * 70, "0" + "1" * 69, "\u0663",
                     "\u00b2", "1\u0663", "\uff11", "1\n", "\n1", "None", "True", "1" * 5000):
            self.assert_refused(read_value, MIXED, "num", text)
            self.assert_refused(read_value, MIXED, "pick", "grey(" + text + ")")

    def test_of_the_kind_alone(self):
        for value, text, kind in self.PAIRS:
            for other in ("num", "tree", "pair", "pick", "box", "loop"):
                if other != kind:
                    self.assert_refused(read_value, MIXED, other, text)

    def test_what_reads_but_is_none(self):
        for text in ("node", "node(leaf)", "node(leaf 3)", "node(3 3 3)", "node(leaf leaf leaf)", "node(leaf 3 leaf leaf)",
                     "leaf(3)", "leaf(leaf)", "stem", "tree", "num", "case(0 0)", "tip(leaf 0)", "tip(case(0 0) leaf)", "3",
                     "knot(turn(0))", "node(leaf x leaf)", "abcdefghijkl", "node(red 0 leaf)"):
            self.assert_refused(read_value, MIXED, "tree", text)

    def test_what_is_written_otherwise(self):
        for text in ("", " ", "leaf ", " leaf", "leaf()", "leaf( )", "Leaf", "node (leaf 3 leaf)", "node( leaf 3 leaf)",
                     "node(leaf 3 leaf )", "node(leaf  3 leaf)", "node(leaf 3\nleaf)", "node(leaf,3,leaf)", "node(leaf 3 leaf",
                     "node(leaf 3 leaf))", "node leaf 3 leaf", "node[leaf 3 leaf]", "(leaf)", "leaf\n", "leafleaf",
                     "node(leaf 3leaf)", "node(leaf3 leaf)", "_", "x@leaf", "leaf leaf", "node(leaf -0 leaf)",
                     "node(leaf 03 leaf)", "node(leaf +3 leaf)", "()", "node()"):
            self.assert_refused(read_value, MIXED, "tree", text)

    def test_thirty_deep_and_deeper(self):
        for deep in (1, 2, 29, 30):
            value = nested_value(deep)
            self.assertEqual(read_value(TREES, "tree", written_value(value)), value)
        for deep in (31, 32, 40, 200, 1500):
            self.assert_refused(read_value, TREES, "tree", written_value(nested_value(deep)))
        numbered = (("a", (("b", ("num",)), ("c", ("a",)))),)
        for deep, right in ((30, True), (31, False)):
            text = "c(" * (deep - 1) + "b(5)" + ")" * (deep - 1)
            if right:
                self.assertEqual(written_value(read_value(numbered, "a", text)), text)
            else:
                self.assert_refused(read_value, numbered, "a", text)

    def test_many_brackets(self):
        for count in (1001, 3900, 100000):
            for text in ("node(" * count, "(" * count, "node(leaf 0 " * count + "leaf" + ")" * count, ")" * count,
                         "node(leaf 0 leaf" + ")" * count, "leaf" + "()" * count):
                self.assert_refused(read_value, TREES, "tree", text)

    def test_long_texts_that_were_told_here(self):
        value = ("leaf",)
        for turn in range(11):
            value = ("node", value, turn, value)
        self.assertGreater(len(written_value(value)), 4000)
        self.assertEqual(read_value(TREES, "tree", written_value(value)), value)

    def test_deep_values_are_written(self):
        self.assertEqual(written_value(nested_value(1500)).count("node("), 1499)

    def test_things_that_are_no_texts(self):
        for thing in NO_TEXTS:
            for kind in ("tree", "num"):
                self.assert_refused(read_value, TREES, kind, thing)

    def test_names_that_are_words_of_the_texts(self):
        value = ("if", ("to",), ("num", 5))
        self.assertEqual(written_value(value), "if(to num(5))")
        self.assertEqual(read_value(WORDS, "to", "if(to num(5))"), value)

    def test_each_sign_counts(self):
        count = 0
        for kind, text in (("tree", "node(leaf -30 leaf)"), ("tree", "tip(case(1 20) 0)"), ("num", "-105"), ("tree", "leaf")):
            for other in all_beside(text):
                count += self.assert_exact_value(kind, other)
        self.assertGreater(count, 20)

    def test_by_chance(self):
        chance = random.Random(81)
        for number in range(300):
            kind = chance.choice(("tree", "pair", "num", "box", "pick"))
            value = chance_value(chance, MIXED, kind, 4)
            text = written_value(value)
            self.assertEqual(read_value(MIXED, kind, text), value)
            for turn in range(3):
                self.assert_exact_value(kind, beside(chance, text))


class TestCases(TextTest):
    def assert_text(self, text, cases, book=MIXED):
        self.assertEqual(written_cases(cases), text)
        self.assertEqual(read_cases(book, text), cases)

    def assert_row(self, text, told, first="tree", second="num", book=MIXED):
        self.assert_text(first + " to " + second + "\n" + text, (first, second, (told,)), book)

    def assert_exact_cases(self, text, book=MIXED):
        return self.assert_exact(lambda told: read_cases(book, told), written_cases,
                                 lambda cases: is_cases(book, cases), text)

    def test_no_rows(self):
        self.assert_text("tree to num", cases_with())
        self.assert_text("num to num", cases_with(first="num"))
        self.assert_text("to to to", cases_with(first="to", second="to"), WORDS)

    def test_the_documents_own(self):
        self.assert_text("tree to num\nleaf => 0\nnode(_ x@.. _) if x > 0 => x",
                         cases_with(row(LEAFED), row(node(ANY, ("held", "x", ("num", None, None))), ("held", "x"), ("x", ">", 0))),
                         TREES)

    def test_shapes(self):
        for text, shape in (("_", ANY), ("leaf", LEAFED), ("node(_ _ _)", NODE), ("x@_", X), ("x@leaf", ("held", "x", LEAFED)),
                            ("x@y@_", ("held", "x", ("held", "y", ANY))), ("[_]", ("either", (ANY,))),
                            ("[leaf / node(_ _ _) / _ / leaf]", ("either", (LEAFED, NODE, ANY, LEAFED))),
                            ("[[leaf / _] / _]", ("either", (("either", (LEAFED, ANY)), ANY))),
                            ("x@[leaf / _]", ("held", "x", ("either", (LEAFED, ANY)))),
                            ("[x@leaf / x@_]", ("either", (("held", "x", LEAFED), ("held", "x", ANY)))),
                            ("node([leaf / _] x@0..9 y@leaf)",
                             node(("either", (LEAFED, ANY)), ("held", "x", ("num", 0, 9)), ("held", "y", LEAFED))),
                            ("knot(_)", ("make", "knot", (ANY,))),
                            ("knot(turn(_ ..))", ("make", "knot", (("make", "turn", (ANY, ("num", None, None))),)))):
            self.assert_row(text + " => 0", row(shape))

    def test_spans(self):
        for text, low, high in (("..", None, None), ("0..", 0, None), ("..0", None, 0), ("-3..-1", -3, -1), ("5..5", 5, 5),
                                ("-5..", -5, None), ("..-5", None, -5), ("0..0", 0, 0), ("9" * 70 + "..", 10 ** 70 - 1, None),
                                ("..-" + "9" * 70, None, 1 - 10 ** 70)):
            self.assert_row(text + " => 0", row(("num", low, high)), first="num")
            self.assert_row("x@" + text + " => x", row(("held", "x", ("num", low, high)), ("held", "x")), first="num")

    def test_guards(self):
        box = ("make", "case", (X, ("held", "y", ANY)))
        for text, guard in (("x < 3", (("x", "<", 3),)), ("x <= 3", (("x", "<=", 3),)), ("x = -3", (("x", "=", -3),)),
                            ("x >= y", (("x", ">=", "y"),)), ("x > y", (("x", ">", "y"),)), ("y < x", (("y", "<", "x"),)),
                            ("x = x, y = 0", (("x", "=", "x"), ("y", "=", 0))),
                            ("x < 1, x <= 2, x = 3, x > 4", (("x", "<", 1), ("x", "<=", 2), ("x", "=", 3), ("x", ">", 4))),
                            ("x < " + "9" * 70, (("x", "<", 10 ** 70 - 1),))):
            self.assert_row("case(x@_ y@_) if " + text + " => y", row(box, ("held", "y"), *guard), first="box")

    def test_answers(self):
        shape = ("make", "node", (("held", "a", ANY), X, ANY))
        for text, answer in (("leaf", LEAFED), ("a", ("held", "a")), ("node(a x leaf)", ("make", "node",
                             (("held", "a"), ("held", "x"), LEAFED))), ("tip(case(x -4) 0)", ("make", "tip",
                             (("make", "case", (("held", "x"), ("num", -4))), ("num", 0))))):
            self.assert_row("node(a@_ x@_ _) => " + text, row(shape, answer), second="tree")
        for number in (0, -1, 10 ** 70 - 1, 1 - 10 ** 70):
            self.assert_row("node(a@_ x@_ _) => " + str(number), row(shape, ("num", number)))

    def test_a_name_alone(self):
        self.assert_row("x@_ => leaf", row(X, LEAFED), second="tree")
        self.assert_row("x@_ => x", row(X, ("held", "x")), second="tree")
        self.assert_refused(read_cases, MIXED, "tree to tree\nx@_ => y")
        self.assert_refused(read_cases, MIXED, "tree to tree\nleaf@_ => leaf")
        self.assert_refused(read_cases, MIXED, "tree to tree\nx@_ => node")
        self.assert_refused(read_cases, MIXED, "tree to tree\nx@_ => red")
        self.assert_refused(read_cases, MIXED, "tree to tree\nx => leaf")
        self.assert_refused(read_cases, MIXED, "tree to tree\n_ => knot(turn(0))")

    def test_names_that_are_words_of_the_texts(self):
        pair = ("make", "if", (ANY, ("make", "to", ())))
        self.assert_row("if(_ to) => 0", row(pair), "to", book=WORDS)
        self.assert_row("if(if(to to) to) => if(to to)",
                        row(("make", "if", (("make", "if", (("make", "to", ()),) * 2), ("make", "to", ()))),
                            ("make", "if", (("make", "to", ()),) * 2)), "to", "to", WORDS)
        held = ("make", "num", (("held", "is", ANY),))
        self.assert_row("num(is@_) if is > 0 => is", row(held, ("held", "is"), ("is", ">", 0)), "to", book=WORDS)
        bare = (("if", (("if", ()), ("then", ("if", "if", "if")))),)
        shape = ("make", "then", (("make", "if", ()),) * 3)
        self.assert_row("then(if if if) => if", row(shape, ("make", "if", ())), "if", "if", bare)
        self.assert_row("if => then(if if if)", row(("make", "if", ()), shape), "if", "if", bare)
        self.assert_row("if@.. if if > 0, if < 9 => if",
                        row(("held", "if", ("num", None, None)), ("held", "if"), ("if", ">", 0), ("if", "<", 9)), "num")

    def test_eight_rows_and_more(self):
        for count in (1, 7, 8):
            self.assert_text("tree to num" + "\nleaf => 0" * count, cases_with(*[row(LEAFED)] * count))
        for count in (9, 10, 300):
            self.assert_refused(read_cases, MIXED, "tree to num" + "\nleaf => 0" * count)

    def test_what_reads_but_is_none(self):
        for text in ("loop to num", "num to loop", "stem to num", "tree to stem", "tree to num\nred => 0", "tree to num\n.. => 0",
                     "num to num\nleaf => 0", "tree to num\nleaf => leaf", "tree to tree\nleaf => 0", "num to num\n5..4 => 0",
                     "tree to num\nnode(_ _) => 0", "tree to num\nnode(_ _ _ _) => 0", "tree to num\nnode => 0",
                     "tree to num\nleaf(_) => 0", "tree to num\nnode(x@_ x@_ _) => 0", "tree to num\nleaf@_ => 0",
                     "tree to num\n[x@_ / leaf] => 0", "tree to num\n[_ / _ / _ / _ / _] => 0", "tree to num\nx@_ if x > 0 => 0",
                     "tree to num\nnode(_ x@_ _) if y > 0 => 0", "tree to num\nnode(_ x@_ _) if x > y => 0",
                     "num to num\nx@_ if x > 0, x > 1, x > 2, x > 3, x > 4 => 0", "num to num\nabcdefghi@_ => 0",
                     "tree to tree\n_ => node(leaf 0)", "tree to tree\n_ => leaf(leaf)", "num to num\nx@_ if leaf > 0 => 0"):
            self.assert_refused(read_cases, MIXED, text)

    def test_what_is_written_otherwise(self):
        for text in ("", "\n", "tree", "tree to", "tree to ", "to num", "tree  to num", "tree to  num", " tree to num",
                     "tree to num ", "tree to num\n", "tree to num\n\nleaf => 0", "tree to num\nleaf => 0\n", "tree num",
                     "tree to num\n leaf => 0", "tree to num\nleaf => 0 ", "tree to num\nleaf=> 0", "tree to num\nleaf =>0",
                     "tree to num\nleaf  => 0", "tree to num\nleaf =>  0", "tree to num\nleaf => ", "tree to num\n => 0",
                     "tree to num\nleaf", "tree to num\nleaf if => 0", "tree to num\nleaf if  => 0", "tree to num\nleaf() => 0",
                     "tree to num\n[] => 0", "tree to num\n[leaf/_] => 0", "tree to num\n[leaf / ] => 0",
                     "tree to num\n[leaf /_] => 0", "tree to num\n[leaf / _ => 0", "tree to num\nleaf / _ => 0",
                     "tree to num\n(leaf) => 0", "tree to num\nleaf => 00", "tree to num\nleaf => -0", "tree to num\nleaf => +1",
                     "tree to num\nnode(_ 0.._) => 0", "tree to num\nx @_ => 0", "tree to num\nx@ _ => 0", "tree to num\n@_ => 0",
                     "tree to num\n__ => 0", "tree to num leaf => 0", "tree to num\nleaf => 0 leaf => 1", "tree to num\r\nleaf => 0",
                     "tree to num\nleaf => 0, leaf => 1", "tree to num\nleaf => 0\nleaf", "tree\nto num", "tree TO num"):
            self.assert_refused(read_cases, MIXED, text)

    def test_spans_written_otherwise(self):
        for text in (".", "...", "0.", ".0", "0...9", "0 .. 9", "0.. 9", "0 ..9", "00..", "..-0", "-..", "..-", "0..+9", "+0..9",
                     "0..09", "0..9..", "5", "-5", "1" * 71 + "..", ".." + "1" * 71, "0-9", "0..9-"):
            self.assert_refused(read_cases, MIXED, "num to num\n" + text + " => 0")

    def test_guards_written_otherwise(self):
        for text in ("x", "x <", "x < ", "x <3", "x< 3", "x  < 3", "x <  3", "x < 3,", "x < 3, ", "x < 3,x > 1", "x < 3 , x > 1",
                     "x < 3  ", "3 < x", "x == 3", "x => 3", "x =< 3", "x <> 3", "x != 3", "x < = 3", "x > = 3", "x < < 3",
                     "x = = 3", "x < 03", "x < -0", "x < +3", "x < " + "1" * 71, "x 3", "x is 3", "x < 3 if x > 1", ", x < 3",
                     "x < 3; x > 1", "x < x < x", "x < 3..", "x < _"):
            self.assert_refused(read_cases, MIXED, "num to num\nx@_ if " + text + " => 0")
        self.assertEqual(len(read_cases(MIXED, "num to num\nx@_ if x < 3 => 0")[2]), 1)

    def test_twelve_deep_and_deeper(self):
        for deep, right in ((1, True), (11, True), (12, True), (13, False), (14, False), (40, False)):
            nodes = "node(" * (deep - 1) + ("_" if deep > 1 else "leaf") + " _ _)" * (deep - 1)
            eithers = "[" * (deep - 1) + "_" + "]" * (deep - 1)
            helds = "".join(["abcdefghijklmnopqrstuvwxyz"[i % 26] + "@" for i in range(deep - 1)]) + "_"
            answers = "node(" * (deep - 1) + "leaf" + " 0 leaf)" * (deep - 1)
            for told in (nodes + " => leaf", eithers + " => leaf", helds + " => leaf", "_ => " + answers):
                text = "tree to tree\n" + told
                if right:
                    self.assertEqual(written_cases(read_cases(MIXED, text)), text)
                else:
                    self.assert_refused(read_cases, MIXED, text)

    def test_lines(self):
        for count, right in ((24, True), (25, False)):
            cases = ("num", "num", (row(numbers_either(count)),))
            if right:
                self.assertEqual(read_cases(MIXED, written_cases(cases)), cases)
            else:
                self.assert_refused(read_cases, MIXED, written_cases(cases))

    def test_many_brackets(self):
        for count in (1001, 3900, 100000):
            for told in ("[" * count + "_" + "]" * count + " => leaf", "node(" * count + "_" + " _ _)" * count + " => leaf",
                         "_ => " + "node(" * count + "leaf" + " 0 leaf)" * count, "(" * count, "_ => " + "(" * count,
                         "x@" * count + "_ => leaf", "[" * count, "node(" * count):
                self.assert_refused(read_cases, MIXED, "tree to tree\n" + told)

    def test_things_that_are_no_texts(self):
        for thing in NO_TEXTS + (cases_with(row(LEAFED)),):
            self.assert_refused(read_cases, MIXED, thing)

    def test_each_sign_counts(self):
        count = 0
        for text in ("tree to num\nnode(_ x@-1..20 [leaf / _]) if x > 0, x <= -3 => x", "tree to tree\nx@leaf => node(x 0 leaf)",
                     "num to num\n..5 => 0"):
            for other in all_beside(text):
                count += self.assert_exact_cases(other)
        self.assertGreater(count, 60)

    def test_by_chance(self):
        chance = random.Random(82)
        for number in range(250):
            cases = chance_cases(chance, MIXED, is_shape, 8)
            text = written_cases(cases)
            self.assertEqual(read_cases(MIXED, text), cases)
            for turn in range(4):
                self.assert_exact_cases(beside(chance, text))

    def test_nothing_is_changed(self):
        cases = cases_with(row(node(ANY, X), ("held", "x"), ("x", ">", 0)))
        told = copy.deepcopy((MIXED, cases))
        self.assertEqual(read_cases(told[0], written_cases(told[1])), cases)
        self.assertEqual(told, (MIXED, cases))


if __name__ == "__main__":
    unittest.main()
