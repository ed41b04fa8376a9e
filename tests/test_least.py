"""[10.1], [10.2]: least trees, and answerers' papers that none is less deep."""

import copy
import itertools
import random
import unittest

from samples import (ANY, HUGE, KNOT, LEAFED, MIXED, NODE, RACKS, TIP, TREES, answer_of, cases_of, chance_cases,
                     chance_value, look, node, rack, split)
from shapecourt.errors import TooMany
from shapecourt.facts import decided, known_at, stands, word_of
from shapecourt.kinds import makes_of
from shapecourt.least import least_tree, lets_least
from shapecourt.lines import contrary
from shapecourt.seeking import looks_of, outcomes
from shapecourt.shapes import is_shape
from shapecourt.spots import kind_at
from shapecourt.trees import depth, gone, is_own

OPEN = ("open",)
UP = ("num", 0, None)
SIXES = (("six", tuple((name, ()) for name in ("a", "b", "c", "d", "e", "f"))),
         ("hold", (("h", ("six", "six", "six", "nums")),)), ("nums", (("ns", ("six", "num", "num", "num")),)))
XY = ("make", "case", (("held", "x", ANY), ("held", "y", ANY)))


def ask(*answers):
    return ("ask", answers)


def outcome_facts(book, kind, told):
    """The facts of a look's outcomes."""
    if told[0] == "look":
        return [("is", told[1], make) for make, fields in makes_of(book, kind_at(book, kind, told[1]))]
    return [("most",) + told[1:], contrary(("most",) + told[1:])]


def open_looks(book, cases, facts):
    """The looks of cases that are open behind facts, by the words of the document."""
    found = []
    for told in looks_of(book, cases):
        spots = told[1:2] if told[0] == "look" else [spot for spot in told[1:3] if spot is not None]
        if not all(stands(book, cases[0], facts, spot) for spot in spots):
            continue
        if told[0] == "look":
            is_open = known_at(book, cases[0], facts, told[1]) is None
        else:
            is_open = word_of(book, cases[0], facts, ("most",) + told[1:]) == "open"
        if is_open:
            found.append(told)
    return found


def least_depth(book, cases, facts=()):
    """The least depth of an own tree behind facts, by trying all looks."""
    facts = list(facts)
    if decided(book, cases, facts) != "open":
        return 0
    return 1 + min(max(least_depth(book, cases, facts + [fact]) for fact in outcome_facts(book, cases[0], told))
                   for told in open_looks(book, cases, facts))


def expected_let(book, cases, most, paper, facts=()):
    """Whether an answerer's paper is let by, by the words of the document."""
    facts = list(facts)
    if decided(book, cases, facts) != "open":
        return False
    if paper[0] == "open":
        return most == 0
    looks = open_looks(book, cases, facts)
    if most < 1 or len(paper[1]) != len(looks):
        return False
    for told, (n, inner) in zip(looks, paper[1]):
        further = outcome_facts(book, cases[0], told)
        if not 0 <= n < len(further) or not expected_let(book, cases, most - 1, inner, facts + [further[n]]):
            return False
    return True


def all_trees(book, cases, deep):
    """Each tree of the cases' looks at most so deep, right or not."""
    found = [("none",), ("odds",)] + [("row", i, k) for i in range(len(cases[2])) for k in range(2)]
    if deep > 0:
        inner = all_trees(book, cases, deep - 1)
        for told in looks_of(book, cases):
            count = len(outcome_facts(book, cases[0], told))
            behind = itertools.product(inner, repeat=count)
            found += [told + ((papers,) if told[0] == "look" else papers) for papers in behind]
    return found


def spoilt(chance, paper):
    """An answerer's paper with one thing changed by chance somewhere."""
    if paper[0] == "ask" and paper[1] and chance.randint(0, 3):
        at = chance.randrange(len(paper[1]))
        n, inner = paper[1][at]
        changed = chance.choice(((n, spoilt(chance, inner)), (n + chance.choice((-1, 1, 2)), inner)))
        return ask(*paper[1][:at], changed, *paper[1][at + 1:])
    if paper[0] == "ask":
        return chance.choice((OPEN, ask(*paper[1][:-1]), ask(*paper[1], (0, OPEN)), ask(*paper[1][::-1])))
    return ask(*[(0, OPEN)] * chance.randint(0, 2))


class LeastTest(unittest.TestCase):
    def assert_least(self, cases, deep, book=MIXED):
        told = least_tree(book, cases)
        self.assertIsInstance(told, tuple)
        tree, paper = told
        self.assertIs(is_own(book, cases, tree), True)
        self.assertEqual(depth(tree), deep)
        if deep == 0:
            self.assertIsNone(paper)
        else:
            for most in range(-1, deep + 2):
                self.assertIs(lets_least(book, cases, most, paper), most == deep - 1)
        self.assertEqual(least_tree(book, cases), told)
        return told


class TestLeastTree(LeastTest):
    def test_no_looks_are_needed(self):
        for cases in (cases_of(), cases_of(KNOT), cases_of(ANY, LEAFED), cases_of(KNOT, ANY), cases_of(ANY, first="num")):
            self.assert_least(cases, 0)
        self.assertEqual(least_tree(MIXED, cases_of()), (("none",), None))
        self.assertEqual(least_tree(MIXED, cases_of(KNOT, ANY, TIP)), (("row", 1, 0), None))

    def test_one_look(self):
        self.assertEqual(self.assert_least(cases_of(TIP, LEAFED), 1), (look((), ("row", 1, 0), ("none",), ("row", 0, 0)), OPEN))
        self.assertEqual(self.assert_least(cases_of(UP, first="num"), 1),
                         (split(None, (), 0, ("row", 0, 0), ("none",)), OPEN))
        self.assert_least(cases_of(UP, ("num", None, -1), first="num"), 1)

    def test_more_looks(self):
        tree, paper = self.assert_least(cases_of(("num", 0, 9), first="num"), 2)
        self.assertEqual(paper, ask((0, OPEN), (0, OPEN)))
        self.assert_least(cases_of(node(ANY, UP)), 2)
        self.assert_least(cases_of(node(LEAFED, UP, LEAFED)), 4)
        self.assert_least(cases_of(node(node(ANY, UP))), 3)

    def test_a_good_look_first(self):
        # Four spans side by side: by halves in 2, one after the other in 3.
        spans = [("num", None, 0), ("num", 1, 10), ("num", 11, 20), ("num", 21, None)]
        for order in itertools.permutations(spans):
            self.assert_least(cases_of(*order, first="num"), 2)
        spans = [("num", 7 * i, 7 * i + 6) for i in range(7)]
        for count, deep in ((2, 2), (3, 3), (6, 3), (7, 4)):
            self.assert_least(cases_of(*spans[:count], first="num"), deep)

    def test_comparisons(self):
        rows = [(XY, (guard,), ("num", i)) for i, guard in enumerate((("x", "<", "y"), ("x", "=", "y"), ("x", ">", "y")))]
        self.assert_least(("box", "num", tuple(rows)), 2)
        self.assert_least(("box", "num", tuple(rows[:2])), 2)
        self.assert_least(("box", "num", tuple(rows[:1])), 1)
        self.assert_least(("box", "num", ((XY, (("x", "<", "x"), ("y", ">", HUGE)), ("num", 0)),)), 0)

    def test_lines_are_told_apart(self):
        cases = cases_of(("either", (node(LEAFED), NODE)), ANY)
        self.assert_least(cases, 2)

    def test_held_against_all_trees(self):
        for cases in (cases_of(node(ANY, UP)), cases_of(UP, first="num"), cases_of(("num", 0, 0), first="num"),
                      cases_of(("num", 0, 9), ("num", None, -1), first="num"), cases_of(TIP, node(ANY, UP), NODE)):
            deep = depth(least_tree(MIXED, cases)[0])
            self.assertLessEqual(deep, 2)
            own = [tree for tree in all_trees(MIXED, cases, min(deep, 1)) if is_own(MIXED, cases, tree)]
            self.assertEqual(min([depth(tree) for tree in own], default=2), deep)

    def test_by_chance(self):
        chance = random.Random(61)
        seen = {}
        while len([deep for deep in seen if seen[deep] > 8]) < 4:
            cases = chance_cases(chance, MIXED, is_shape, 5)
            if outcomes(MIXED, cases) > 60:
                continue
            deep = least_depth(MIXED, cases)
            seen[deep] = seen.get(deep, 0) + 1
            tree, paper = self.assert_least(cases, deep)
            for turn in range(5):
                value = chance_value(chance, MIXED, cases[0], 3)
                told = answer_of(cases, value)
                self.assertEqual(gone(MIXED, tree, value)[0][1:2], () if told is None else told[:1])

    def test_at_the_edge(self):
        # 4 * 4 * 4 * 4 * 3 * 3 * 3 is 6912.
        cases = cases_of(rack(0, 4, [("num", 0, 9), UP]), first="rack")
        self.assert_least(cases, 7, RACKS)
        cases = cases_of(rack(2, 3, [UP]), first="rack")
        self.assert_least(cases, 6, RACKS)

    def test_too_many(self):
        six = ("make", "a", ())
        hold = ("make", "h", (six, six, six, ("make", "ns", (six, UP, ANY, ANY))))
        cases = cases_of(hold, first="hold")
        self.assertEqual(outcomes(SIXES, cases), 6 ** 4 * 2)
        with self.assertRaises(TooMany):
            least_tree(SIXES, cases)
        self.assertEqual(depth(least_tree(SIXES, cases_of(hold[:2] + ((six, six, six, ANY),), first="hold"))[0]), 3)
        numbers = [("num", i, 20 - i) for i in range(4)]
        cases = cases_of(rack(0, 0, numbers), rack(0, 0, [("num", 9, None)]), first="rack")
        self.assertEqual(outcomes(RACKS, cases), 512)
        with self.assertRaises(TooMany):
            least_tree(RACKS, cases)
        cases = cases_of(rack(0, 0, numbers), first="rack")
        self.assertEqual(depth(least_tree(RACKS, cases)[0]), 8)
        for cases in (cases_of(rack(4, 4), first="rack"), cases_of(ANY, rack(4, 4), first="rack")):
            with self.assertRaises(TooMany):
                least_tree(RACKS, cases)

    def test_nothing_is_changed(self):
        told = copy.deepcopy((MIXED, cases_of(node(LEAFED, UP), TIP)))
        least_tree(*told)
        self.assertEqual(told, (MIXED, cases_of(node(LEAFED, UP), TIP)))


class TestLetsLeast(unittest.TestCase):
    # Its looks: at (), at the number from 0 on, at the number up to 9.
    CASES = cases_of(node(ANY, ("num", 0, 9)))

    def assert_lets(self, most, paper, right, cases=CASES):
        self.assertIs(lets_least(MIXED, cases, most, paper), right, (most, paper))
        if most >= 0:
            self.assertIs(expected_let(MIXED, cases, most, paper), right)

    def test_open(self):
        for most, right in ((0, True), (1, False), (2, False), (-1, False), (HUGE, False), (-HUGE, False)):
            self.assert_lets(most, OPEN, right)
        for cases in (cases_of(), cases_of(ANY), cases_of(KNOT)):
            for most in (0, 1):
                self.assert_lets(most, OPEN, False, cases)
                self.assert_lets(most, ask(), False, cases)

    def test_ask(self):
        self.assert_lets(1, ask((1, OPEN)), True)
        for most in (0, 2, -1):
            self.assert_lets(most, ask((1, OPEN)), False)
        self.assert_lets(2, ask((1, ask((0, OPEN), (0, OPEN)))), True)
        self.assert_lets(3, ask((1, ask((0, OPEN), (0, OPEN)))), False)
        self.assert_lets(1, ask((1, ask((0, OPEN), (0, OPEN)))), False)

    def test_only_open_looks_are_answered(self):
        for paper in (ask(), ask((1, OPEN), (0, OPEN)), ask((1, OPEN), (0, OPEN), (0, OPEN))):
            self.assert_lets(1, paper, False)
        for replies in ((), ((0, OPEN),), ((0, OPEN),) * 3):
            self.assert_lets(2, ask((1, ask(*replies))), False)

    def test_a_number_of_no_outcome(self):
        for n in (-1, 3, 4, HUGE, -HUGE):
            self.assert_lets(1, ask((n, OPEN)), False)
        for n in (-1, 2, -2, 3):
            self.assert_lets(2, ask((1, ask((n, OPEN), (0, OPEN)))), False)
            self.assert_lets(2, ask((1, ask((0, OPEN), (n, OPEN)))), False)
        cases = cases_of(node(ANY, UP))
        for n, right in ((-2, False), (-1, False), (0, False), (1, True), (2, False)):
            self.assertIs(lets_least(TREES, cases, 1, ask((n, OPEN))), right)

    def test_where_the_cases_are_decided(self):
        for n in (0, 2):
            self.assert_lets(1, ask((n, OPEN)), False)
        self.assert_lets(2, ask((1, ask((1, OPEN), (0, OPEN)))), False)
        self.assert_lets(2, ask((1, ask((0, OPEN), (1, OPEN)))), False)
        self.assert_lets(3, ask((1, ask((0, ask((0, OPEN))), (0, ask((0, OPEN)))))), False)

    def test_the_order_of_looks(self):
        cases = cases_of(("make", "both", (LEAFED, ANY, ("make", "red", ()), ANY)), first="pair")
        self.assert_lets(1, ask((0, OPEN), (0, OPEN)), True, cases)
        cases = cases_of(("make", "both", (LEAFED, ANY, ("make", "blue", ()), UP)), first="pair")
        self.assert_lets(1, ask((0, OPEN), (1, OPEN), (0, OPEN)), True, cases)
        for replies in itertools.permutations(((0, OPEN), (1, OPEN), (0, OPEN))):
            self.assert_lets(1, ask(*replies), replies[1][0] == 1, cases)

    def test_splits_that_are_told_are_not_open(self):
        cases = cases_of(("num", 0, None), ("num", 10, None), ("num", None, -5), first="num")
        self.assert_lets(1, ask((1, OPEN), (1, OPEN), (1, OPEN)), True, cases)
        self.assert_lets(1, ask((0, OPEN), (1, OPEN), (1, OPEN)), False, cases)
        self.assert_lets(1, ask((1, OPEN), (0, OPEN), (1, OPEN)), False, cases)

    def test_by_chance(self):
        chance = random.Random(62)
        seen = {True: 0, False: 0}
        while min(seen.values()) < 40:
            cases = chance_cases(chance, MIXED, is_shape, 3)
            if outcomes(MIXED, cases) > 40:
                continue
            tree, paper = least_tree(MIXED, cases)
            if paper is None:
                continue
            most = depth(tree) - 1
            other = spoilt(chance, paper)
            for told in (paper, other):
                for count in (most - 1, most, most + 1):
                    let = lets_least(MIXED, cases, count, told)
                    self.assertIs(let, expected_let(MIXED, cases, count, told))
                    self.assertFalse(let and count > most)
                    seen[let] += 1

    def test_deep_papers(self):
        paper = OPEN
        for turn in range(1500):
            paper = ask((1, paper))
        for most in (0, 1, 1500):
            self.assertIs(lets_least(MIXED, self.CASES, most, paper), False)

    def test_cases_with_too_many_looks_for_least_tree(self):
        cases = cases_of(rack(4, 4), first="rack")
        self.assertIs(lets_least(RACKS, cases, 0, OPEN), True)
        self.assertIs(lets_least(RACKS, cases, 1, ask(*[(0, OPEN)] * 8)), True)
        self.assertIs(lets_least(RACKS, cases, 1, ask(*[(0, OPEN)] * 7, (1, OPEN))), False)


if __name__ == "__main__":
    unittest.main()
