"""[7.1] to [7.3]: looks and their outcomes, what is told of a question, what is left."""

import copy
import random
import unittest

from samples import (ANY, HUGE, KNOT, L, LEAF, LEAFED, M, MIXED, NODE, R, RACKS, T, TIP, U, answer_of, cases_of,
                     chance_cases, chance_question, chance_value, node, numbers_in, rack, row_binding)
from shapecourt.cases import row_lines
from shapecourt.errors import NoRow, TooMany
from shapecourt.facts import at_odds, in_order, met
from shapecourt.lines import contrary, holds
from shapecourt.papers import answers, lets
from shapecourt.seeking import comes, covered, left, looks_of, meet, outcomes, sought
from shapecourt.shapes import is_shape
from shapecourt.values import depth_of, is_value

LOOK = ("look", ())
SPAN = ("num", 0, 9)
UP = ("num", 0, None)
AT_MOST = rack(4, 0, (SPAN, SPAN, UP))
ONE_MORE = rack(3, 4, (UP,))

# Its plain values are as deep as six kinds allow.
CHAIN = (("ka", (("stop", ("kb",)), ("go", ("ka", "ka")))), ("kb", (("b", ("kc",)),)), ("kc", (("c", ("kd",)),)),
         ("kd", (("d", ("ke",)),)), ("ke", (("e", ("kf",)),)), ("kf", (("f", ("num",)),)))


def guarded(shape, *guard, first="tree"):
    return (first, "num", ((shape, guard, ("num", 0)),))


def two_numbers(*guard):
    """Cases of one row that holds x and y of a box, with a guard."""
    return guarded(("make", "case", (("held", "x", ANY), ("held", "y", ANY))), *guard, first="box")


def looks_expected(tests):
    """The looks of tests, by the words of the document."""
    found = []
    for test in tests:
        if test[0] == "is":
            told = [("look", test[1])]
        else:
            told = [] if test[1] == test[2] else [("split",) + test[1:], ("split",) + contrary(test)[1:]]
        if told and not any(look in found for look in told):
            found.append(told[0])
    return found


class TestLooks(unittest.TestCase):
    def assert_looks(self, cases, *looks):
        told = looks_of(MIXED, cases)
        self.assertIsInstance(told, list)
        self.assertEqual(told, list(looks))

    def test_no_rows_and_no_tests(self):
        self.assert_looks(cases_of())
        self.assert_looks(cases_of(ANY))
        self.assert_looks(cases_of(KNOT))
        self.assert_looks(cases_of(("make", "case", (ANY, ANY)), first="box"))
        self.assert_looks(cases_of(("num", None, None), first="num"))

    def test_order_of_rows_lines_and_tests(self):
        sides = ("either", (node(LEAFED, ("num", 3, 8)), TIP, node(ANY, ANY, LEAFED)))
        self.assert_looks(cases_of(TIP), LOOK)
        self.assert_looks(cases_of(sides, node(ANY, ("num", None, 1), NODE), node(NODE, ("num", 2, 8))),
                          LOOK, ("look", (L,)), ("split", None, (M,), -3), ("split", (M,), None, 8), ("look", (R,)),
                          ("split", (M,), None, 1))
        self.assert_looks(cases_of(("make", "tip", (ANY, UP)), node(ANY, UP)),
                          LOOK, ("split", None, (U,), 0), ("split", None, (M,), 0))
        self.assert_looks(cases_of(node(ANY, UP), ("make", "tip", (ANY, UP))),
                          LOOK, ("split", None, (M,), 0), ("split", None, (U,), 0))

    def test_a_guard_is_behind_the_shape(self):
        shape = node(("make", "node", (ANY, ("held", "x", ANY), ANY)), ("held", "y", UP), LEAFED)
        self.assert_looks(guarded(shape, ("x", "<", "y"), ("y", "=", 4)),
                          LOOK, ("look", (L,)), ("split", None, (M,), 0), ("look", (R,)), ("split", (L, M), (M,), -1),
                          ("split", (M,), None, 4), ("split", None, (M,), -4))

    def test_each_once(self):
        self.assert_looks(cases_of(TIP, NODE, LEAFED, TIP), LOOK)
        self.assert_looks(cases_of(UP, UP, ("num", 0, 3), ("num", 1, 3), first="num"),
                          ("split", None, (), 0), ("split", (), None, 3), ("split", None, (), -1))

    def test_of_a_test_and_its_contrary_the_first(self):
        self.assert_looks(cases_of(UP, ("num", None, -1), first="num"), ("split", None, (), 0))
        self.assert_looks(cases_of(("num", None, -1), UP, first="num"), ("split", (), None, -1))
        self.assert_looks(cases_of(("num", None, 0), UP, first="num"), ("split", (), None, 0), ("split", None, (), 0))
        self.assert_looks(cases_of(("num", None, HUGE), ("num", HUGE + 1, None), first="num"), ("split", (), None, HUGE))
        x, y = (("case", 0),), (("case", 1),)
        self.assert_looks(two_numbers(("x", "<", "y"), ("x", ">=", "y")), ("split", x, y, -1))
        self.assert_looks(two_numbers(("x", ">=", "y"), ("x", "<", "y")), ("split", y, x, 0))
        self.assert_looks(two_numbers(("x", "<=", "y"), ("y", "<=", "x")), ("split", x, y, 0), ("split", y, x, 0))

    def test_none_of_a_number_against_itself(self):
        for sign in ("<", "<=", "=", ">=", ">"):
            self.assert_looks(two_numbers(("x", sign, "x")))
            self.assert_looks(two_numbers(("x", sign, "x"), ("x", ">", 3)), ("split", None, (("case", 0),), -4))

    def test_by_chance(self):
        chance = random.Random(31)
        for number in range(200):
            cases = chance_cases(chance, MIXED, is_shape, 6)
            tests = [test for i in range(len(cases[2])) for line in row_lines(MIXED, cases, i) for test in line[0]]
            self.assert_looks(cases, *looks_expected(tests))

    def test_the_list_is_the_askers_own(self):
        cases = cases_of(TIP, node(LEAFED))
        told = looks_of(MIXED, cases)
        told.clear()
        self.assert_looks(cases, LOOK, ("look", (L,)))


class TestOutcomes(unittest.TestCase):
    def test_of_no_looks(self):
        for cases in (cases_of(), cases_of(ANY, KNOT), two_numbers(("x", "<", "x"))):
            self.assertEqual(outcomes(MIXED, cases), 1)

    def test_makes_that_come_at_the_kind_of_the_spot(self):
        self.assertEqual(outcomes(MIXED, cases_of(TIP)), 3)
        self.assertEqual(outcomes(MIXED, cases_of(node(LEAFED))), 9)
        self.assertEqual(outcomes(MIXED, cases_of(node(LEAFED), ("make", "tip", (ANY, UP)))), 18)
        pick = ("make", "both", (ANY, ANY, ("make", "red", ()), ("num", 1, 2)))
        self.assertEqual(outcomes(MIXED, cases_of(pick, first="pair")), 12)
        self.assertEqual(outcomes(RACKS, cases_of(rack(1), first="rack")), 5)
        self.assertEqual(outcomes(RACKS, cases_of(rack(0, 1), first="rack")), 3)

    def test_at_the_edge_and_far_beyond(self):
        self.assertEqual(outcomes(RACKS, cases_of(AT_MOST, first="rack")), 20000)
        self.assertEqual(outcomes(RACKS, cases_of(ONE_MORE, first="rack")), 20250)
        shape = NODE
        for turn in range(4):
            shape = node(shape, UP, shape)
        self.assertEqual(outcomes(MIXED, cases_of(shape)), 3 ** 31 * 2 ** 15)


class TestSought(unittest.TestCase):
    def assert_told(self, told, book, cases, question, word):
        self.assertIsInstance(told, tuple)
        self.assertEqual(len(told), 2)
        self.assertEqual(told[0], word, question)
        if word == "paper":
            self.assertIs(lets(book, cases, question, told[1]), True)
            return
        value = told[1]
        self.assertTrue(is_value(book, cases[0], value))
        self.assertLessEqual(depth_of(value), 30)
        self.assertLess(max([abs(number) for number in numbers_in(value)], default=0), 10 ** 70)
        self.assertIs(answers(book, cases, question, value), True)
        taking = {i for i, row in enumerate(cases[2]) if row_binding(row, value) is not None}
        self.assertTrue(set(question[0]) <= taking and not set(question[1]) & taking)

    def assert_sought(self, cases, question, word, book=MIXED):
        self.assert_told(sought(book, cases, question), book, cases, question, word)

    def test_wanted_and_avoided(self):
        cases = cases_of(LEAFED, NODE, TIP, node(ANY, ("num", None, 0)), node(ANY, ("num", 1, None)), ANY, KNOT)
        for question, word in ((((), ()), "value"), (((0,), ()), "value"), (((0, 1), ()), "paper"),
                               (((1, 3), ()), "value"), (((3, 4), ()), "paper"), (((1,), (3,)), "value"),
                               (((1,), (3, 4)), "paper"), (((3,), (1,)), "paper"), (((), (0, 1, 2)), "paper"),
                               (((), (0, 3, 4)), "value"), (((), (0, 2, 3, 4)), "paper"), (((), (5,)), "paper"),
                               (((5,), ()), "value"), (((6,), ()), "paper"), (((), (6,)), "value"),
                               (((5,), (6,)), "value"), (((5, 6), ()), "paper")):
            self.assert_sought(cases, question, word)

    def test_twice_and_in_both(self):
        cases = cases_of(LEAFED, NODE, ANY)
        self.assert_sought(cases, ((0, 0, 2, 0), (1, 1)), "value")
        self.assert_sought(cases, ((1, 2), (0, 0)), "value")
        self.assert_sought(cases, ((0,), (0,)), "paper")
        self.assert_sought(cases, ((2, 0, 1, 0), (1,)), "paper")
        self.assert_sought(cases, ((1,), (2, 1)), "paper")

    def test_guards(self):
        bars = ("box", "num", tuple((("make", "case", (("held", "x", ANY), ("held", "y", ANY))), guard, ("num", 0))
                                    for guard in ((("x", "<", "y"),), (("y", "<", "x"),), (("x", "=", "y"),),
                                                  (("x", "<", "y"), ("y", "<", "x")), (("x", "<", "x"),),
                                                  (("x", "<=", "x"),), (("x", ">", HUGE),), (("y", "<", -HUGE),))))
        for question, word in ((((0, 1), ()), "paper"), (((), (0, 1)), "value"), (((), (0, 1, 2)), "paper"),
                               (((3,), ()), "paper"), (((4,), ()), "paper"), (((), (5,)), "paper"),
                               (((6, 7), ()), "value"), (((6, 7, 0), ()), "paper"), (((6, 7), (1,)), "paper"),
                               (((6, 7, 1), (0, 2)), "value"), (((6,), (7, 1, 2)), "value")):
            self.assert_sought(bars, question, word)

    def test_numbers_just_beside_one_another(self):
        cases = cases_of(("num", None, HUGE - 1), ("num", HUGE, HUGE), ("num", HUGE + 1, None), ("num", -HUGE, HUGE),
                         first="num")
        for question, word in ((((), (0, 2)), "value"), (((), (0, 1, 2)), "paper"), (((1, 3), ()), "value"),
                               (((2, 3), ()), "paper"), (((0,), (3,)), "value"), (((3,), (0, 1)), "paper")):
            self.assert_sought(cases, question, word)
        self.assertEqual(sought(MIXED, cases, ((1,), ())), ("value", HUGE))

    def test_a_chain_of_huge_numbers(self):
        held = ["s", "t", "u", "v"]
        shape = ("make", "ns", tuple(("held", name, ANY) for name in held))
        rows = [(shape, (("s", "<", "t"), ("t", "<", "u"), ("u", "<", "v"), ("s", ">", HUGE)), ("num", 0)),
                (shape, (("v", "<", -HUGE), ("s", "<", "t"), ("t", "<", "u"), ("u", "<", "v")), ("num", 0)),
                (shape, (("v", "<=", HUGE + 3),), ("num", 0)), (shape, (("v", "<=", HUGE + 4),), ("num", 0))]
        cases = ("nums", "num", tuple(rows))
        for question, word in ((((0,), ()), "value"), (((1,), ()), "value"), (((0, 1), ()), "paper"),
                               (((0, 2), ()), "paper"), (((0, 3), ()), "value"), (((0,), (3,)), "value")):
            self.assert_sought(cases, question, word, RACKS)

    def test_deep_values(self):
        deep = ANY
        for turn in range(11):
            deep = ("make", "go", (deep, ANY))
        cases = cases_of(deep, deep[2][0], first="ka")
        for question, word in ((((0,), ()), "value"), (((1,), (0,)), "value"), (((0,), (1,)), "paper")):
            self.assert_sought(cases, question, word, CHAIN)
        self.assertGreaterEqual(depth_of(comes(CHAIN, cases, 0)[1]), 12)

    def test_covered_comes_and_meet(self):
        cases = cases_of(LEAFED, node(ANY, ("num", None, 0)), node(ANY, ("num", -5, 5)), node(ANY, ("num", -9, 5)), NODE)
        self.assert_told(covered(MIXED, cases), MIXED, cases, ((), (0, 1, 2, 3, 4)), "value")
        full = cases_of(TIP, *[row[0] for row in cases[2]])
        self.assert_told(covered(MIXED, full), MIXED, full, ((), tuple(range(6))), "paper")
        for i, word in enumerate(("value", "value", "value", "paper", "value")):
            self.assert_told(comes(MIXED, cases, i), MIXED, cases, ((i,), tuple(range(i))), word)
            for j in range(5):
                word = "value" if i == j or 0 not in (i, j) else "paper"
                self.assert_told(meet(MIXED, cases, i, j), MIXED, cases, ((i, j), ()), word)

    def test_they_tell_what_is_told_of_their_questions(self):
        cases = cases_of(node(LEAFED), NODE, node(ANY, UP), TIP)
        self.assertEqual(covered(MIXED, cases), sought(MIXED, cases, ((), (0, 1, 2, 3))))
        for i in range(4):
            self.assertEqual(comes(MIXED, cases, i), sought(MIXED, cases, ((i,), tuple(range(i)))))
            for j in range(4):
                self.assertEqual(meet(MIXED, cases, i, j), sought(MIXED, cases, ((i, j), ())))

    def test_no_rows(self):
        for first in ("tree", "num", "pair"):
            cases = cases_of(first=first)
            self.assert_told(covered(MIXED, cases), MIXED, cases, ((), ()), "value")
            self.assert_sought(cases, ((), ()), "value")

    def test_rows_that_never_come(self):
        cases = cases_of(KNOT, node(KNOT), LEAFED, ("either", (LEAFED, KNOT)))
        for i, word in enumerate(("paper", "paper", "value", "paper")):
            self.assert_told(comes(MIXED, cases, i), MIXED, cases, ((i,), tuple(range(i))), word)

    def test_by_chance(self):
        chance = random.Random(32)
        seen = {"value": 0, "paper": 0}
        while min(seen.values()) < 250:
            cases = chance_cases(chance, MIXED, is_shape)
            if outcomes(MIXED, cases) > 20000:
                continue
            question = chance_question(chance, len(cases[2]))
            told = sought(MIXED, cases, question)
            self.assert_told(told, MIXED, cases, question, told[0])
            seen[told[0]] += 1
            if told[0] == "paper":
                for turn in range(5):
                    value = chance_value(chance, MIXED, cases[0], 3)
                    self.assertIs(answers(MIXED, cases, question, value), False)

    def test_the_same_question_has_the_same_answer(self):
        cases = cases_of(node(LEAFED), NODE, node(ANY, UP), TIP)
        told = copy.deepcopy((MIXED, cases, ((2,), (1, 3))))
        for function in (lambda: sought(*told), lambda: covered(*told[:2]), lambda: meet(*told[:2], 1, 2)):
            self.assertEqual(function(), function())
        self.assertEqual(told, (MIXED, cases, ((2,), (1, 3))))


class TestRefusals(unittest.TestCase):
    def each_function(self, book, cases):
        return (lambda: sought(book, cases, ((), ())), lambda: sought(book, cases, ((0,), (0,))),
                lambda: covered(book, cases), lambda: comes(book, cases, 0), lambda: meet(book, cases, 0, 0),
                lambda: left(book, cases))

    def test_too_many(self):
        at_most = cases_of(AT_MOST, first="rack")
        for function in self.each_function(RACKS, at_most):
            self.assertIsNotNone(function())
        for cases in (cases_of(ONE_MORE, first="rack"), cases_of(ANY, AT_MOST, rack(0, 1), first="rack"),
                      cases_of(AT_MOST, rack(0, 0, (ANY, ANY, ANY, UP)), first="rack")):
            for function in self.each_function(RACKS, cases):
                with self.assertRaises(TooMany):
                    function()

    def test_all_rows_count_for_too_many(self):
        cases = cases_of(ANY, LEAFED, first="tree")
        far = cases_of(ANY, ONE_MORE, first="rack")
        self.assertEqual(comes(MIXED, cases, 0)[0], "value")
        with self.assertRaises(TooMany):
            comes(RACKS, far, 0)
        with self.assertRaises(TooMany):
            sought(RACKS, far, ((0,), ()))

    def test_no_row(self):
        for cases in (cases_of(AT_MOST, first="rack"), cases_of(ONE_MORE, first="rack")):
            for i in (-1, 1, 2, HUGE, -HUGE):
                for function in (lambda: sought(RACKS, cases, ((i,), ())), lambda: sought(RACKS, cases, ((), (0, i))),
                                 lambda: sought(RACKS, cases, ((0, i), (0,))), lambda: comes(RACKS, cases, i),
                                 lambda: meet(RACKS, cases, i, 0), lambda: meet(RACKS, cases, 0, i)):
                    with self.assertRaises(NoRow):
                        function()
        with self.assertRaises(NoRow):
            comes(MIXED, cases_of(), 0)


class TestLeft(unittest.TestCase):
    def assert_left(self, cases, values, book=MIXED):
        told = left(book, cases)
        self.assertIsInstance(told, list)
        for facts in told:
            self.assertIsInstance(facts, list)
            self.assertTrue(in_order(book, cases[0], facts))
            self.assertFalse(at_odds(facts))
            self.assertIsNone(answer_of(cases, met(book, cases[0], facts)))
        for value in values + [met(book, cases[0], facts) for facts in told]:
            meeting = [facts for facts in told if all(holds(value, fact) for fact in facts)]
            self.assertEqual(len(meeting), 1 if answer_of(cases, value) is None else 0, value)
        return told

    def test_all_none_and_some(self):
        values = [LEAF, ("node", LEAF, 0, LEAF), ("node", ("tip", ("case", 0, 0), 1), -4, LEAF), ("tip", ("case", 1, 2), 3)]
        self.assertEqual(left(MIXED, cases_of()), [[]])
        self.assertEqual(left(MIXED, cases_of(KNOT)), [[]])
        self.assertEqual(left(MIXED, cases_of(ANY)), [])
        self.assertEqual(left(MIXED, cases_of(LEAFED, NODE, TIP)), [])
        self.assertEqual(self.assert_left(cases_of(LEAFED, NODE), values), [[("is", (), "tip")]])
        self.assertEqual(len(self.assert_left(cases_of(LEAFED), values)), 2)
        self.assert_left(cases_of(node(ANY, ("num", 0, 5)), node(LEAFED), TIP), values)
        self.assert_left(cases_of(node(ANY, ("num", -4, 5)), node(NODE), node(TIP)), values)

    def test_numbers(self):
        values = [-HUGE, -1, 0, 5, 6, HUGE]
        for shapes in ((("num", 0, 5),), (("num", 0, 0), ("num", 6, None)), (("num", None, HUGE), ("num", -HUGE, None))):
            self.assert_left(cases_of(*shapes, first="num"), values)

    def test_the_lists_are_the_askers_own(self):
        for cases in (cases_of(), cases_of(LEAFED), cases_of(node(LEAFED), TIP)):
            told = left(MIXED, cases)
            expected = copy.deepcopy(told)
            told[0].append("more")
            self.assertEqual(told[1:], expected[1:])
            told.clear()
            self.assertEqual(left(MIXED, cases), expected)

    def test_at_the_edge(self):
        self.assert_left(cases_of(AT_MOST, first="rack"), [met(RACKS, "rack", [])], RACKS)

    def test_by_chance(self):
        chance = random.Random(33)
        count = 0
        while count < 150:
            cases = chance_cases(chance, MIXED, is_shape)
            if outcomes(MIXED, cases) <= 2000:
                count += 1
                self.assert_left(cases, [chance_value(chance, MIXED, cases[0], 3) for turn in range(8)])


if __name__ == "__main__":
    unittest.main()
