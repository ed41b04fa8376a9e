"""[4.1] to [4.4]: guards, answers, rows, and what cases tell."""

import copy
import random
import unittest

from samples import (ANY, HUGE, LEAF, MIXED, NODE, TREES, answered, chance_cases, chance_value, names_held,
                     nested_value, numbers_either, row_binding)
from shapecourt.cases import guard_tests, is_cases, line_of, row_lines, takes, told
from shapecourt.errors import NoRow
from shapecourt.lines import fits, lines_of
from shapecourt.shapes import is_shape
from shapecourt.values import depth_of, is_value

L, M, R = ("node", 0), ("node", 1), ("node", 2)
SIGNS = ("<", "<=", "=", ">=", ">")
LEAFED = ("make", "leaf", ())
ZERO = ("num", 0)
SHAPE = ("make", "node", (("held", "t", ANY), ("held", "x", ANY), ("make", "tip", (ANY, ("held", "y", ANY)))))


def held(name, shape=ANY):
    return ("held", name, shape)


def node(left=ANY, number=ANY, right=ANY):
    return ("make", "node", (left, number, right))


def one_row(shape=ANY, guard=(), answer=ZERO, first="tree", second="num"):
    return (first, second, ((shape, guard, answer),))


def deep_answer(deep):
    """An answer of tree so deep."""
    answer = LEAFED
    for number in range(deep - 1):
        answer = ("make", "node", (LEAFED, ZERO, answer))
    return answer


class CasesTest(unittest.TestCase):
    def assert_cases(self, thing, book=MIXED):
        self.assertIs(is_cases(book, thing), True, thing)

    def assert_none(self, thing, book=MIXED):
        self.assertIs(is_cases(book, thing), False, thing)


class TestIsCases(CasesTest):
    def test_counts_of_rows(self):
        row = (ANY, (), ZERO)
        for count in (0, 1, 2, 7, 8):
            self.assert_cases(("tree", "num", (row,) * count))
        for count in (9, 10):
            self.assert_none(("tree", "num", (row,) * count))

    def test_kinds(self):
        for kind in ("tree", "box", "pair", "pick", "num"):
            self.assert_cases((kind, "num", ()))
            self.assert_cases(("num", kind, ()))
            self.assert_cases((kind, "num", ((ANY, (), ZERO),)))
            self.assert_cases((kind, kind, ((held("x"), (), ("held", "x")),)))

    def test_kinds_of_no_name_and_without_values(self):
        for kind in ("loop", "stem", "", "leaf", "Tree", "tree ", "a longer text than words are"):
            self.assert_none((kind, "num", ()))
            self.assert_none(("num", kind, ()))
            self.assert_none((kind, kind, ()))
            self.assert_none((kind, "num", ((ANY, (), ZERO),)))
            self.assert_none(("num", kind, ((held("x"), (), ("held", "x")),)))

    def test_each_row_is_asked(self):
        good, bad = (ANY, (), ZERO), (ANY, (), LEAFED)
        for at in range(4):
            rows = (good,) * at + (bad,) + (good,) * (3 - at)
            self.assert_none(("tree", "num", rows))

    def test_shapes(self):
        for shape in (ANY, LEAFED, NODE, SHAPE, ("make", "knot", (ANY,)), ("either", (LEAFED, NODE)),
                      numbers_either(24)):
            self.assert_cases(one_row(shape))
        for shape in (("num", 0, 1), ("make", "red", ()), ("make", "leaf", (ANY,)), ("either", ()), held("leaf"),
                      held("x", held("x")), ("either", (held("x"), ANY)), numbers_either(25), ("num", 1, 0)):
            self.assert_none(one_row(shape))
        self.assert_cases(one_row(("num", 0, 1), first="num"))
        self.assert_none(one_row(("num", 1, 0), first="num"))

    def test_other_forms(self):
        for thing in ((), ("tree",), ("tree", "num"), ("tree", "num", (), ()), ("tree", "num", ((ANY, ()),)),
                      ("tree", "num", ((ANY, (), ZERO, ()),)), ("tree", "num", (ANY,)), ("tree", "num", "")):
            self.assert_none(thing)


class TestGuards(CasesTest):
    def test_counts_of_comparisons(self):
        for count in range(5):
            self.assert_cases(one_row(SHAPE, (("x", "<", "y"),) * count))
        for count in (5, 6):
            self.assert_none(one_row(SHAPE, (("x", "<", "y"),) * count))

    def test_signs(self):
        for sign in SIGNS:
            for right in ("x", "y", 0, -5, HUGE, -HUGE):
                self.assert_cases(one_row(SHAPE, (("x", sign, right),)))
                self.assert_cases(one_row(SHAPE, (("y", sign, right), ("x", sign, right))))

    def test_other_signs(self):
        for sign in ("", "==", "!=", "<>", "=<", "=>", "< ", "most", "is", 0, None, True, (), ("<",)):
            self.assert_none(one_row(SHAPE, (("x", sign, "y"),)))
            self.assert_none(one_row(SHAPE, (("x", "<", "y"), ("x", sign, 0))))

    def test_names_at_the_left(self):
        for left in ("z", "t", "node", "num", "", "X", 0, 5, -1, None, True, (), ("x",), "t" * 9):
            with self.subTest(left=left):
                self.assert_none(one_row(SHAPE, ((left, "<", "y"),)))
                self.assert_none(one_row(SHAPE, ((left, "<", 3),)))
                self.assert_none(one_row(SHAPE, (("x", "<", "y"), (left, "<", 3))))

    def test_names_and_numbers_at_the_right(self):
        for right in ("z", "t", "node", "num", "", "X", None, True, False, (), ("x",), (0,)):
            with self.subTest(right=right):
                self.assert_none(one_row(SHAPE, (("x", "<", right),)))
                self.assert_none(one_row(SHAPE, (("x", "<", "y"), ("y", "=", right))))

    def test_names_held_on_all_sides(self):
        shape = ("either", (node(ANY, held("x")), ("make", "tip", (ANY, held("x")))))
        self.assert_cases(one_row(shape, (("x", "<", 3),), ("held", "x")))
        self.assert_none(one_row(ANY, (("x", "<", 3),)))

    def test_a_name_of_the_row_ahead(self):
        self.assert_none(("tree", "num", ((SHAPE, (), ZERO), (ANY, (("x", "<", 0),), ZERO))))

    def test_other_forms(self):
        for guard in ((("x", "<"),), (("x", "<", "y", "y"),), ((),)):
            self.assert_none(one_row(SHAPE, guard))


class TestAnswers(CasesTest):
    def test_numbers(self):
        for number in (0, 1, -1, HUGE, -HUGE):
            self.assert_cases(one_row(answer=("num", number)))
        for thing in (True, False, None, "0", "x", (), (0,), ("num", 0)):
            self.assert_none(one_row(answer=("num", thing)))
            self.assert_none(one_row(answer=("make", "grey", (("num", thing),)), second="pick"))
        self.assert_cases(one_row(answer=("make", "grey", (("num", 3),)), second="pick"))

    def test_held_names(self):
        self.assert_cases(one_row(SHAPE, (), ("held", "x")))
        self.assert_cases(one_row(SHAPE, (), ("held", "t"), second="tree"))
        for name in ("z", "leaf", "", "num", "X", 0, None, True, (), ("x",)):
            for second in ("num", "tree"):
                self.assert_none(one_row(SHAPE, (), ("held", name), second=second))

    def test_of_another_kind(self):
        self.assert_none(one_row(SHAPE, (), ("held", "t")))
        self.assert_none(one_row(SHAPE, (), ("held", "x"), second="tree"))
        self.assert_none(one_row(answer=ZERO, second="tree"))
        self.assert_none(one_row(answer=LEAFED))
        self.assert_none(one_row(answer=LEAFED, second="pick"))
        self.assert_none(one_row(SHAPE, (), ("make", "node", (("held", "t"), ("held", "t"), LEAFED)), second="tree"))
        self.assert_none(one_row(SHAPE, (), ("make", "node", (("held", "x"), ZERO, LEAFED)), second="tree"))
        self.assert_none(one_row(answer=("make", "node", (LEAFED, LEAFED, LEAFED)), second="tree"))

    def test_makes(self):
        self.assert_cases(one_row(answer=LEAFED, second="tree"))
        self.assert_cases(one_row(SHAPE, (), ("make", "node", (("held", "t"), ("held", "y"), LEAFED)), second="tree"))
        both = ("make", "both", (LEAFED, ("make", "case", (ZERO, ZERO)), ("make", "red", ()), ("num", 4)))
        self.assert_cases(one_row(answer=both, second="pair"))
        for name in ("stem", "tree", "", 0, None, True, (), ("leaf",)):
            self.assert_none(one_row(answer=("make", name, ()), second="tree"))

    def test_makes_that_do_not_come(self):
        shape = ("make", "knot", (held("k"),))
        self.assert_cases(one_row(shape))
        self.assert_none(one_row(shape, (), ("make", "knot", (("held", "k"),)), second="tree"))
        turn = ("make", "turn", (held("k"), held("n")))
        self.assert_cases(one_row(("make", "knot", (turn,)), (), ("held", "n")))
        self.assert_none(one_row(("make", "knot", (turn,)), (), ("make", "knot", (("held", "k"),)), second="tree"))
        self.assert_none(one_row(("make", "knot", (held("k"),)), (),
                                 ("make", "void", (("held", "k"), ("make", "case", (ZERO, ZERO)))), second="box"))

    def test_a_part_more_or_fewer(self):
        for parts in ((), (LEAFED,), (LEAFED, ZERO), (LEAFED, ZERO, LEAFED, LEAFED), (LEAFED, ZERO, LEAFED, ZERO)):
            self.assert_none(one_row(answer=("make", "node", parts), second="tree"))
        self.assert_none(one_row(answer=("make", "leaf", (LEAFED,)), second="tree"))
        self.assert_none(one_row(answer=("make", "leaf", (ZERO,)), second="tree"))
        self.assert_none(one_row(answer=("make", "node", (LEAFED, ZERO, ("make", "leaf", (ZERO,)))), second="tree"))

    def test_twelve_and_thirteen_deep(self):
        for deep in (1, 2, 11, 12):
            self.assert_cases(one_row(answer=deep_answer(deep), second="tree"))
        for deep in (13, 14, 18):
            self.assert_none(one_row(answer=deep_answer(deep), second="tree"))
        for inner, second in ((("held", "t"), "tree"), (LEAFED, "tree")):
            for count, right in ((11, True), (12, False)):
                answer = inner
                for number in range(count):
                    answer = ("make", "node", (answer, ZERO, LEAFED))
                self.assertIs(is_cases(MIXED, one_row(SHAPE, (), answer, second=second)), right)

    def test_each_answer_without_parts_is_one_deep(self):
        book = (("nat", (("zero", ()), ("next", ("nat",)), ("box", ("num",)))),)
        for inner, deep in ((("make", "zero", ()), 1), (("held", "x"), 1), (("make", "box", (("num", 5),)), 2)):
            answer = inner
            for number in range(12 - deep):
                answer = ("make", "next", (answer,))
            self.assert_cases(("nat", "nat", ((held("x"), (), answer),)), book)
            self.assert_none(("nat", "nat", ((held("x"), (), ("make", "next", (answer,))),)), book)

    def test_the_depth_of_numbers_counts(self):
        answer = ("make", "tip", (("make", "case", (ZERO, ZERO)), ZERO))
        for number in range(9):
            answer = ("make", "node", (LEAFED, ZERO, answer))
        self.assert_cases(one_row(answer=answer, second="tree"))
        self.assert_none(one_row(answer=("make", "node", (LEAFED, ZERO, answer)), second="tree"))

    def test_other_forms(self):
        for answer in (("num",), ("num", 0, 0), ("held", "x", "x"), ("make", "leaf"), ("any",), ("part", ()), ()):
            self.assert_none(one_row(SHAPE, (), answer))
            self.assert_none(one_row(SHAPE, (), answer, second="tree"))
            self.assert_none(one_row(SHAPE, (), ("make", "node", (LEAFED, answer, LEAFED)), second="tree"))


class TestGuardTests(unittest.TestCase):
    LINE = ((("is", (), "node"),), (("t", (L,)), ("x", (M,)), ("y", (R, M))))
    X, Y = (M,), (R, M)

    def assert_tests(self, guard, expected):
        answer = guard_tests(guard, self.LINE)
        self.assertIs(type(answer), list)
        self.assertEqual(answer, expected)
        self.assertTrue(all(type(test) is tuple for test in answer))

    def test_none(self):
        self.assert_tests((), [])
        self.assertEqual(guard_tests((), ((), ())), [])

    def test_names(self):
        x, y = self.X, self.Y
        self.assert_tests((("x", "<", "y"),), [("most", x, y, -1)])
        self.assert_tests((("x", "<=", "y"),), [("most", x, y, 0)])
        self.assert_tests((("x", ">=", "y"),), [("most", y, x, 0)])
        self.assert_tests((("x", ">", "y"),), [("most", y, x, -1)])
        self.assert_tests((("x", "=", "y"),), [("most", x, y, 0), ("most", y, x, 0)])
        self.assert_tests((("y", "<", "x"),), [("most", y, x, -1)])
        self.assert_tests((("x", "<", "x"),), [("most", x, x, -1)])

    def test_numbers(self):
        x = self.X
        for number in (0, 1, -1, 7, -7, HUGE, -HUGE):
            self.assert_tests((("x", "<", number),), [("most", x, None, number - 1)])
            self.assert_tests((("x", "<=", number),), [("most", x, None, number)])
            self.assert_tests((("x", ">=", number),), [("most", None, x, -number)])
            self.assert_tests((("x", ">", number),), [("most", None, x, -number - 1)])
            self.assert_tests((("x", "=", number),), [("most", x, None, number), ("most", None, x, -number)])

    def test_several_in_order(self):
        x, y = self.X, self.Y
        self.assert_tests((("y", ">", 3), ("x", "=", "y"), ("x", "<=", -2), ("x", "<", "y")),
                          [("most", None, y, -4), ("most", x, y, 0), ("most", y, x, 0), ("most", x, None, -2),
                           ("most", x, y, -1)])

    def test_the_list_is_the_askers_own(self):
        guard = (("x", "=", "y"),)
        first = guard_tests(guard, self.LINE)
        first.append("more")
        self.assertEqual(len(guard_tests(guard, self.LINE)), 2)


EITHER = ("either", (node(ANY, held("x"), LEAFED), ("make", "tip", (ANY, held("x", ("num", None, 9))))))
UNLIKE = ("tree", "num", (
    (LEAFED, (), ("num", -1)),
    (EITHER, (("x", ">", 0),), ("held", "x")),
    (("either", (node(ANY, held("x")), node(node(ANY, held("x"))))), (("x", ">=", 5),), ("held", "x")),
    (("make", "knot", (ANY,)), (), ("num", 7)),
))


class TestRows(unittest.TestCase):
    def test_row_lines(self):
        is_node, is_tip = ("is", (), "node"), ("is", (), "tip")
        self.assertEqual(row_lines(MIXED, UNLIKE, 0), [((("is", (), "leaf"),), ())])
        self.assertEqual(row_lines(MIXED, UNLIKE, 1), [
            ((is_node, ("is", (R,), "leaf"), ("most", None, (M,), -1)), (("x", (M,)),)),
            ((is_tip, ("most", (("tip", 1),), None, 9), ("most", None, (("tip", 1),), -1)), (("x", (("tip", 1),)),))])
        self.assertEqual(row_lines(MIXED, UNLIKE, 2), [
            ((is_node, ("most", None, (M,), -5)), (("x", (M,)),)),
            ((is_node, ("is", (L,), "node"), ("most", None, (L, M), -5)), (("x", (L, M)),))])
        self.assertEqual(row_lines(MIXED, UNLIKE, 3), [])

    def test_row_lines_are_lists_of_tuples_and_the_askers_own(self):
        for i in range(4):
            first = row_lines(MIXED, UNLIKE, i)
            self.assertIs(type(first), list)
            for line in first:
                self.assertEqual([type(line), type(line[0]), type(line[1])], [tuple] * 3)
            kept = list(first)
            first.append("more")
            self.assertEqual(row_lines(MIXED, UNLIKE, i), kept)

    def test_without_a_guard_they_are_the_shapes(self):
        cases = ("tree", "num", ((EITHER, (), ZERO),))
        self.assertEqual(row_lines(MIXED, cases, 0), lines_of(MIXED, "tree", EITHER, ()))

    def test_takes_and_line_of(self):
        tip = ("tip", ("case", 0, 0), 4)
        for value, lines in (
                (LEAF, (0, None, None, None)),
                (("node", LEAF, 1, LEAF), (None, 0, None, None)),
                (("node", LEAF, 0, LEAF), (None, None, None, None)),
                (("node", LEAF, 5, LEAF), (None, 0, 0, None)),
                (("node", LEAF, 5, tip), (None, None, 0, None)),
                (("node", ("node", LEAF, 5, LEAF), 4, tip), (None, None, 1, None)),
                (("node", ("node", LEAF, 5, LEAF), 5, tip), (None, None, 0, None)),
                (("node", ("node", LEAF, 4, LEAF), 4, tip), (None, None, None, None)),
                (tip, (None, 1, None, None)),
                (("tip", ("case", 0, 0), 9), (None, 1, None, None)),
                (("tip", ("case", 0, 0), 10), (None, None, None, None)),
                (("tip", ("case", 0, 0), 0), (None, None, None, None))):
            for i in range(4):
                with self.subTest(value=value, i=i):
                    self.assertEqual(line_of(MIXED, UNLIKE, i, value), lines[i])
                    self.assertIs(takes(MIXED, UNLIKE, i, value), lines[i] is not None)

    def test_no_row(self):
        for cases, numbers in ((UNLIKE, (-1, -4, 4, 5, HUGE, -HUGE)), (("tree", "num", ()), (0, 1, -1))):
            for i in numbers:
                with self.assertRaises(NoRow):
                    row_lines(MIXED, cases, i)
                with self.assertRaises(NoRow):
                    takes(MIXED, cases, i, LEAF)
                with self.assertRaises(NoRow):
                    line_of(MIXED, cases, i, LEAF)


class TestTold(unittest.TestCase):
    def test_the_first_row_that_takes(self):
        tip = ("tip", ("case", 0, 0), 4)
        for value, answer in (
                (LEAF, (0, -1)), (("node", LEAF, 1, LEAF), (1, 1)), (("node", LEAF, 5, LEAF), (1, 5)),
                (("node", LEAF, 5, tip), (2, 5)), (("node", ("node", LEAF, 6, LEAF), 4, tip), (2, 6)),
                (("node", ("node", LEAF, 6, LEAF), 7, tip), (2, 7)), (tip, (1, 4)),
                (("node", LEAF, 0, LEAF), None), (("tip", ("case", 0, 0), 10), None)):
            with self.subTest(value=value):
                self.assertEqual(told(MIXED, UNLIKE, value), answer)
                self.assertIn(type(told(MIXED, UNLIKE, value)), (tuple, type(None)))

    def test_no_rows(self):
        self.assertIsNone(told(MIXED, ("tree", "num", ()), LEAF))

    def test_answers_of_parts_numbers_makes(self):
        shape = held("a", node(held("b"), held("n"), ANY))
        answer = ("make", "node", (("held", "b"), ("num", -HUGE), ("make", "node", (("held", "a"), ("held", "n"), LEAFED))))
        cases = ("tree", "tree", ((shape, (), answer), (held("a"), (), ("held", "a"))))
        value = ("node", ("node", LEAF, 1, LEAF), HUGE, LEAF)
        self.assertEqual(told(TREES, cases, value),
                         (0, ("node", ("node", LEAF, 1, LEAF), -HUGE, ("node", value, HUGE, LEAF))))
        self.assertEqual(told(TREES, cases, LEAF), (1, LEAF))

    def test_a_name_at_unlike_spots(self):
        shape = ("either", (node(held("x"), held("n", ("num", 0, None)), held("y")), node(held("y"), held("n"), held("x"))))
        cases = ("tree", "tree", ((shape, (), ("held", "x")),))
        one, two = ("node", LEAF, 1, LEAF), ("node", LEAF, 2, LEAF)
        self.assertEqual(told(TREES, cases, ("node", one, 0, two)), (0, one))
        self.assertEqual(told(TREES, cases, ("node", one, -1, two)), (0, two))

    def test_equal_numbers(self):
        shape = node(node(ANY, held("x")), held("y"))
        cases = ("tree", "num", ((shape, (("x", "=", "y"),), ("held", "x")), (shape, (("x", "<", "y"),), ("held", "y"))))
        for x, y in ((0, 0), (HUGE, HUGE), (HUGE - 1, HUGE), (HUGE, HUGE - 1), (-HUGE, HUGE), (-1, 0)):
            value = ("node", ("node", LEAF, x, LEAF), y, LEAF)
            self.assertEqual(told(TREES, cases, value), (0, x) if x == y else (1, y) if x < y else None)

    def test_kinds_of_num(self):
        cases = ("num", "num", ((held("x", ("num", None, 4)), (("x", ">", 2),), ("held", "x")), (ANY, (), ("num", 9))))
        self.assertEqual([told(TREES, cases, number) for number in range(2, 6)], [(1, 9), (0, 3), (0, 4), (1, 9)])

    def test_values_told_may_be_deep(self):
        cases = ("tree", "tree", ((held("a"), (), ("make", "node", (("held", "a"), ZERO, ("held", "a")))),))
        self.assertEqual(depth_of(told(TREES, cases, nested_value(30))[1]), 31)

    def test_by_chance(self):
        chance = random.Random(13)
        seen = {}
        for number in range(250):
            cases = chance_cases(chance, MIXED, is_shape)
            self.assertIs(is_cases(MIXED, cases), True)
            for turn in range(8):
                value = chance_value(chance, MIXED, cases[0], 3)
                found = [row_binding(row, value) for row in cases[2]]
                taking = [i for i, held_parts in enumerate(found) if held_parts is not None]
                expected = None if not taking else (taking[0], answered(cases[2][taking[0]][2], found[taking[0]]))
                self.assertEqual(told(MIXED, cases, value), expected)
                self.assertTrue(expected is None or is_value(MIXED, cases[1], expected[1]))
                seen[None if expected is None else expected[0]] = True
                for i in range(len(cases[2])):
                    self.assertIs(takes(MIXED, cases, i, value), i in taking)
                    lines = [fits(value, line) for line in row_lines(MIXED, cases, i)]
                    self.assertEqual(line_of(MIXED, cases, i, value), lines.index(True) if i in taking else None)
        self.assertLessEqual({None, 0, 1, 2}, set(seen))

    def test_spoilt_by_chance(self):
        chance = random.Random(14)
        for number in range(100):
            first, second, rows = chance_cases(chance, MIXED, is_shape)
            if rows:
                shape, guard, answer = chance.choice(rows)
                names = [name for name, kind in names_held(MIXED, first, shape)]
                self.assertNotIn("a", names)
                for row in ((shape, guard + (("a", "<", 0),), answer), (shape, guard, ("held", "a")),
                            (("held", "leaf", shape), guard, answer)):
                    self.assertIs(is_cases(MIXED, (first, second, rows[1:] + (row,))), False)


class TestQuestions(unittest.TestCase):
    def test_nothing_is_changed(self):
        book, cases, value = copy.deepcopy((MIXED, UNLIKE, ("node", LEAF, 5, LEAF)))
        for question in (lambda: is_cases(book, cases), lambda: row_lines(book, cases, 1), lambda: told(book, cases, value),
                         lambda: takes(book, cases, 1, value), lambda: line_of(book, cases, 1, value)):
            self.assertEqual(question(), question())
        self.assertEqual((book, cases, value), (MIXED, UNLIKE, ("node", LEAF, 5, LEAF)))


if __name__ == "__main__":
    unittest.main()
