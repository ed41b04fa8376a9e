"""[8.3]: cases alike, and joint papers."""

import copy
import random
import unittest

from samples import (ANY, HUGE, KNOT, L, LEAFED, M, MIXED, NODE, ODDS, RACKS, TIP, U, answer_of, cases_of, chance_cases,
                     chance_value, look, node, numbers_in, rack, split)
from shapecourt.alike import alike, lets_alike
from shapecourt.errors import TooMany
from shapecourt.seeking import outcomes
from shapecourt.shapes import is_shape
from shapecourt.values import depth_of, is_value

SAME = ("same",)
X = ("held", "x")
XS = ("held", "x", ANY)
UP = ("num", 0, None)
DOWN = ("num", None, -1)


def row(shape, answer, *guard):
    return (shape, guard, answer)


def trees_to_num(*rows):
    return ("tree", "num", rows)


def trees_to_trees(*rows):
    return ("tree", "tree", rows)


def told_by(cases, value):
    told = answer_of(cases, value)
    return None if told is None else told[1]


class AlikeTest(unittest.TestCase):
    def assert_alike(self, one, other, book=MIXED):
        for pair in ((one, other), (other, one)):
            told = alike(book, *pair)
            self.assertEqual(told[0], "paper", told)
            self.assertEqual(len(told), 2)
            self.assertIs(lets_alike(book, *pair, told[1]), True)

    def assert_parted(self, one, other, book=MIXED):
        for pair in ((one, other), (other, one)):
            told = alike(book, *pair)
            self.assertEqual(told[0], "value", told)
            self.assertEqual(len(told), 2)
            self.assertTrue(is_value(book, one[0], told[1]))
            self.assertLessEqual(depth_of(told[1]), 30)
            self.assertTrue(all(abs(number) < 10 ** 70 for number in numbers_in(told[1])))
            self.assertNotEqual(told_by(one, told[1]), told_by(other, told[1]))
        return told[1]


class TestAlike(AlikeTest):
    def test_both_without_rows(self):
        for first in ("tree", "num", "pair"):
            self.assert_alike(cases_of(first=first), cases_of(first=first))

    def test_the_same_cases(self):
        cases = trees_to_num(row(node(ANY, XS), X, ("x", ">", 3)), row(NODE, ("num", 1)), row(ANY, ("num", 2)))
        self.assert_alike(cases, cases)
        self.assert_alike(cases, copy.deepcopy(cases))

    def test_none_against_something(self):
        self.assert_parted(cases_of(), cases_of(ANY))
        self.assert_parted(cases_of(LEAFED), cases_of())
        self.assert_alike(cases_of(), cases_of(KNOT))
        self.assert_parted(cases_of(LEAFED), cases_of(LEAFED, TIP))
        self.assert_parted(cases_of(UP, first="num"), cases_of(("num", 1, None), first="num"))

    def test_rows_numbers_do_not_count(self):
        one = trees_to_num(row(LEAFED, ("num", 4)), row(NODE, ("num", 5)), row(TIP, ("num", 6)))
        self.assert_alike(one, trees_to_num(*one[2][::-1]))
        self.assert_alike(one, trees_to_num(row(KNOT, ("num", 9)), *one[2]))

    def test_rows_in_another_order(self):
        low, high = row(node(ANY, ("num", None, 3)), ("num", 1)), row(node(ANY, ("num", 3, None)), ("num", 2))
        self.assert_parted(trees_to_num(low, high), trees_to_num(high, low))
        self.assertEqual(self.assert_parted(trees_to_num(low, high), trees_to_num(high, low))[2], 3)
        high = row(node(ANY, ("num", 4, None)), ("num", 2))
        self.assert_alike(trees_to_num(low, high), trees_to_num(high, low))
        low, high = row(node(ANY, ("num", None, 3)), ("num", 1)), row(node(ANY, ("num", 3, None)), ("num", 1))
        self.assert_alike(trees_to_num(low, high), trees_to_num(high, low))

    def test_merged_sides(self):
        one = trees_to_num(row(LEAFED, ("num", 1)), row(NODE, ("num", 1)), row(TIP, ("num", 2)))
        self.assert_alike(one, trees_to_num(row(("either", (LEAFED, NODE)), ("num", 1)), row(ANY, ("num", 2))))
        self.assert_parted(one, trees_to_num(row(("either", (LEAFED, TIP)), ("num", 1)), row(ANY, ("num", 2))))
        sides = ("either", (node(ANY, XS), ("make", "tip", (ANY, XS))))
        self.assert_alike(trees_to_num(row(sides, X)), trees_to_num(row(sides[1][1], X), row(sides[1][0], X)))

    def test_the_first_line_counts(self):
        sides = (node(node(ANY, XS)), node(ANY, XS))
        one, other = [trees_to_num(row(("either", told), X)) for told in (sides, sides[::-1])]
        self.assert_parted(one, other)

    def test_guards_written_otherwise(self):
        pairs = ((("x", "<", 3), ("x", "<=", 2)), (("x", ">", 3), ("x", ">=", 4)), (("x", ">", HUGE), ("x", ">=", HUGE + 1)))
        for one, other in pairs:
            self.assert_alike(trees_to_num(row(node(ANY, XS), X, one)), trees_to_num(row(node(ANY, XS), X, other)))
            off = other[:2] + (other[2] + 1,)
            self.assert_parted(trees_to_num(row(node(ANY, XS), X, one)), trees_to_num(row(node(ANY, XS), X, off)))
        by_shape = trees_to_num(row(node(ANY, ("held", "x", ("num", 1, 5))), X))
        self.assert_alike(by_shape, trees_to_num(row(node(ANY, XS), X, ("x", ">=", 1), ("x", "<", 6))))
        box = ("make", "case", (XS, ("held", "y", ANY)))
        for one, other in ((("x", "<", "y"), ("y", ">", "x")), (("x", "=", "y"), ("y", "=", "x")),
                           (("x", "<=", "x"), ("y", "=", "y"))):
            self.assert_alike(("box", "num", (row(box, X, one),)), ("box", "num", (row(box, X, other),)))
        self.assert_parted(("box", "num", (row(box, X, ("x", "<", "y")),)), ("box", "num", (row(box, X, ("x", "<=", "y")),)))

    def test_rows_that_never_come(self):
        one = trees_to_num(row(NODE, ("num", 1)), row(node(LEAFED), ("num", 2)), row(ANY, ("num", 3)))
        self.assert_alike(one, trees_to_num(one[2][0], one[2][2]))
        self.assert_parted(one, trees_to_num(one[2][1], one[2][2]))

    def test_answers_alike_by_what_is_known(self):
        whole = row(("held", "t", NODE), ("held", "t"))
        again = row(("make", "node", (("held", "a", ANY), XS, ("held", "b", ANY))),
                    ("make", "node", (("held", "a"), X, ("held", "b"))))
        turned = again[:2] + (("make", "node", (("held", "b"), X, ("held", "a"))),)
        self.assert_alike(trees_to_trees(whole), trees_to_trees(again))
        self.assert_parted(trees_to_trees(whole), trees_to_trees(turned))
        self.assert_alike(trees_to_trees(row(LEAFED, LEAFED)), trees_to_trees(row(("held", "t", LEAFED), ("held", "t"))))
        fixed = trees_to_num(row(node(ANY, ("num", 7, 7)), ("num", 7)))
        self.assert_alike(fixed, trees_to_num(row(node(ANY, ("held", "x", ("num", 7, 7))), X)))
        self.assert_parted(fixed, trees_to_num(row(node(ANY, ("held", "x", ("num", 7, 7))), ("num", 8))))
        self.assert_parted(trees_to_num(row(node(ANY, ("held", "x", ("num", 7, 8))), X)),
                           trees_to_num(row(node(ANY, ("num", 7, 8)), ("num", 7))))
        box = ("make", "case", (XS, ("held", "y", ANY)))
        one, other = [("box", "num", (row(box, answer, ("x", "=", "y")),)) for answer in (X, ("held", "y"))]
        self.assert_alike(one, other)
        one, other = [("box", "num", (row(box, answer, ("x", ">=", "y")),)) for answer in (X, ("held", "y"))]
        self.assert_parted(one, other)

    def test_answers_that_are_held(self):
        one = trees_to_trees(row(("make", "node", (("held", "a", ANY), ANY, ANY)), ("held", "a")))
        other = trees_to_trees(row(("held", "a", NODE), ("held", "a")))
        self.assert_parted(one, other)
        self.assert_parted(one, trees_to_trees(row(("make", "node", (ANY, ANY, ("held", "a", ANY))), ("held", "a"))))
        self.assert_parted(one, trees_to_trees(row(NODE, LEAFED)))

    def test_huge_numbers(self):
        low = cases_of(("num", None, HUGE), ANY, first="num")
        self.assert_alike(low, ("num", "num", (row(("num", HUGE + 1, None), ("num", 1)), row(ANY, ("num", 0)))))
        self.assertEqual(self.assert_parted(low, cases_of(("num", None, HUGE - 1), ANY, first="num")), HUGE)

    def test_too_many_by_the_looks_of_both(self):
        spans = [("num", 0, 9), ("num", 0, 9), UP]
        at_most = cases_of(rack(4, 0, spans), first="rack")
        self.assert_alike(at_most, at_most, RACKS)
        self.assert_parted(at_most, cases_of(first="rack"), RACKS)
        turned = cases_of(rack(4, 0, spans[:2] + [DOWN]), first="rack")
        self.assertEqual(outcomes(RACKS, turned), 20000)
        self.assert_parted(at_most, turned, RACKS)
        for other in (cases_of(rack(0, 1), first="rack"), cases_of(rack(0, 0, [ANY, ANY, ANY, UP]), first="rack"),
                      cases_of(rack(0, 0, [ANY, ANY, ("num", None, 0)]), first="rack")):
            for pair in ((at_most, other), (other, at_most)):
                with self.assertRaises(TooMany):
                    alike(RACKS, *pair)
        one, other = cases_of(rack(3, 4), first="rack"), cases_of(rack(0, 4, [UP]), first="rack")
        for pair in ((one, other), (other, one)):
            with self.assertRaises(TooMany):
                alike(RACKS, *pair)

    def test_by_chance(self):
        chance = random.Random(42)
        seen = {"paper": 0, "value": 0}
        while min(seen.values()) < 150:
            one = chance_cases(chance, MIXED, is_shape)
            other = self.other_than(chance, one)
            if outcomes(MIXED, (one[0], one[1], one[2] + other[2])) > 5000:
                continue
            told = alike(MIXED, one, other)
            seen[told[0]] += 1
            if told[0] == "value":
                self.assert_parted(one, other)
            else:
                self.assert_alike(one, other)
                for turn in range(6):
                    value = chance_value(chance, MIXED, one[0], 3)
                    self.assertEqual(told_by(one, value), told_by(other, value))

    def other_than(self, chance, cases):
        """Cases with the rows of some cases, perhaps one fewer, in another order, or one more."""
        rows = list(cases[2])
        for turn in range(chance.randint(0, 2)):
            if rows and chance.randint(0, 1):
                rows.pop(chance.randrange(len(rows)))
            chance.shuffle(rows)
        if chance.randint(0, 2) == 0:
            while True:
                more = chance_cases(chance, MIXED, is_shape)
                if more[:2] == cases[:2] and more[2]:
                    rows.append(more[2][0])
                    break
        return (cases[0], cases[1], tuple(rows))

    def test_nothing_is_changed(self):
        told = (MIXED, cases_of(LEAFED, node(ANY, UP)), cases_of(LEAFED, node(ANY, UP), NODE))
        again = copy.deepcopy(told)
        self.assertEqual(alike(*told), alike(*told))
        self.assertEqual(told, again)


class TestLetsAlike(unittest.TestCase):
    ONE = trees_to_num(row(node(ANY, XS), X, ("x", ">=", 0)), row(NODE, ("num", 0)), row(LEAFED, ("num", 1)))
    OTHER = trees_to_num(row(node(ANY, DOWN), ("num", 0)), row(LEAFED, ("num", 1)), row(node(ANY, XS), X))

    def assert_lets(self, paper, one=ONE, other=OTHER):
        for pair in ((one, other), (other, one)):
            self.assertIs(lets_alike(MIXED, *pair, paper), True, paper)

    def assert_not(self, paper, one=ONE, other=OTHER):
        for pair in ((one, other), (other, one)):
            self.assertIs(lets_alike(MIXED, *pair, paper), False, paper)

    def test_same(self):
        self.assert_lets(SAME, cases_of(), cases_of())
        self.assert_lets(SAME, cases_of(ANY), cases_of(ANY))
        self.assert_lets(SAME, cases_of(KNOT), cases_of())
        self.assert_not(SAME, cases_of(ANY), cases_of())
        self.assert_not(SAME, cases_of(ANY), trees_to_num(row(ANY, ("num", 1))))
        self.assert_not(SAME, cases_of(LEAFED), cases_of(LEAFED))
        self.assert_not(SAME, cases_of(LEAFED), cases_of())
        self.assert_not(SAME)

    def test_the_way_down(self):
        self.assert_lets(look((), SAME, split((M,), None, -1, SAME, SAME), SAME))
        self.assert_lets(look((), SAME, split(None, (M,), 0, SAME, SAME), SAME))
        self.assert_not(look((), SAME, SAME, SAME))
        self.assert_not(look((), SAME, split((M,), None, 0, SAME, SAME), SAME))
        self.assert_not(split((M,), None, -1, SAME, SAME))
        self.assert_lets(look((), SAME, split((M,), None, 0, split((M,), None, -1, SAME, SAME), SAME), SAME))
        self.assert_lets(look((), SAME, look((L,), *[split((M,), None, -1, SAME, SAME)] * 3), SAME))

    def test_papers_that_are_not_let_by(self):
        good = split((M,), None, -1, SAME, SAME)
        for paper in (look((), SAME, good), look((), SAME, good, SAME, SAME), look((L,), SAME, good, SAME),
                      look((), good, SAME, SAME), look((), SAME, split((M,), (M,), 0, SAME, SAME), SAME),
                      look((), SAME, split(None, None, 0, good, good), SAME), look((), SAME, good, look((), SAME, SAME, SAME)),
                      look((), SAME, split((L, M), None, -1, good, good), SAME),
                      look((), SAME, split((U,), None, -1, good, good), SAME), look((), SAME, good, ODDS),
                      look((), ODDS, good, SAME), look((), SAME, split((M,), None, -1, ODDS, SAME), SAME),
                      look((), SAME, split((M,), None, -1, SAME, ODDS), SAME), ODDS, look((), SAME, good, ("none",)),
                      look((), SAME, good, ("takes", 0)), look((), SAME, good, ("misses", 0)),
                      look((), SAME, good, look((("stem", 0),), SAME, SAME))):
            self.assert_not(paper)

    def test_anything_behind_facts_at_odds(self):
        for rest in (ODDS, SAME, ("takes", 9), look((("stem", 3),)), split(None, None, 0, SAME, SAME)):
            inner = split((M,), None, -1, split((M,), None, 0, SAME, rest), SAME)
            self.assert_lets(look((), SAME, inner, SAME))
            inner = split((M,), None, -1, split((M,), None, -2, SAME, SAME), split((M,), None, -3, rest, SAME))
            self.assert_lets(look((), SAME, inner, SAME))
        self.assert_not(look((), SAME, split((M,), None, -1, split((M,), None, -2, SAME, ODDS), SAME), SAME))

    def test_terms_tied_by_facts(self):
        one = trees_to_num(row(node(ANY, XS), X), row(ANY, ("num", 0)))
        other = trees_to_num(row(node(ANY, ("num", 4, 4)), ("num", 4)), row(node(ANY, XS), X), row(ANY, ("num", 0)))
        good = split((M,), None, 4, split(None, (M,), -4, SAME, SAME), SAME)
        self.assert_lets(look((), SAME, good, SAME), one, other)
        self.assert_not(look((), SAME, split((M,), None, 4, SAME, SAME), SAME), one, other)
        self.assert_not(look((), SAME, split((M,), None, 4, split(None, (M,), -3, SAME, SAME), SAME), SAME), one, other)

    def test_deep_papers(self):
        good, bad = SAME, ODDS
        for number in range(1500):
            good, bad = split((), None, number, good, SAME), split((), None, number, bad, SAME)
        for paper, right in ((good, True), (bad, False)):
            self.assertIs(lets_alike(MIXED, cases_of(ANY, first="num"), cases_of(ANY, first="num"), paper), right)

    def test_no_paper_is_let_by_of_parted_cases(self):
        chance = random.Random(43)
        count = 0
        while count < 100:
            one, other = chance_cases(chance, MIXED, is_shape, 2), chance_cases(chance, MIXED, is_shape, 2)
            if one[:2] != other[:2] or outcomes(MIXED, one) > 500 or outcomes(MIXED, other) > 500:
                continue
            try:
                told = alike(MIXED, one, other)
            except TooMany:
                continue
            if told[0] == "value":
                count += 1
                for paper in (SAME, alike(MIXED, one, one)[1], alike(MIXED, other, other)[1]):
                    self.assertIs(lets_alike(MIXED, one, other, paper), False)


if __name__ == "__main__":
    unittest.main()
