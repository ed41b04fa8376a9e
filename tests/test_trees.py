"""[9.1] to [9.3]: right trees, own trees, the way of a value through a tree."""

import copy
import random
import unittest

from samples import (ANY, C, HUGE, KNOT, L, LEAF, LEAFED, M, MIXED, NODE, ODDS, R, RACKS, T, TIP, U, answer_of, cases_of,
                     chance_cases, chance_value, look, node, rack, spots_within, split)
from shapecourt.cases import line_of
from shapecourt.errors import TooMany
from shapecourt.facts import at_odds, decided, in_order, known_at, stands
from shapecourt.kinds import makes_of
from shapecourt.lines import contrary
from shapecourt.seeking import looks_of, outcomes
from shapecourt.shapes import is_shape
from shapecourt.spots import is_spot, kind_at
from shapecourt.trees import depth, gone, is_own, is_right, leaves, tree_of

NONE = ("none",)
UP = ("num", 0, None)
UPPER = node(ANY, UP)
# Row 1 has two lines; nothing takes a tip.
CASES = cases_of(UPPER, ("either", (node(LEAFED), NODE)), LEAFED)


def row(i, k=0):
    return ("row", i, k)


LOWER = look((L,), row(1), row(1, 1), row(1, 1))
TREE = look((), row(2), split(None, (M,), 0, row(0), LOWER), NONE)


def behind(tree):
    """The trees behind a tree's top look."""
    return {"look": tree[2:3] and tree[2], "split": tree[4:]}.get(tree[0], ())


def every(tree):
    """A tree and each within it."""
    return [tree] + [found for inner in behind(tree) for found in every(inner)]


def looks_in(tree):
    return [inner[:2] if inner[0] == "look" else inner[:4] for inner in every(tree) if inner[0] in ("look", "split")]


def expected_right(cases, facts, tree):
    """Whether a tree is right behind facts, by the words of the document."""
    kind = cases[0]
    if at_odds(facts):
        return True
    if tree[0] == "look":
        spot = tree[1]
        if not is_spot(MIXED, kind, spot) or not stands(MIXED, kind, facts, spot):
            return False
        makes = makes_of(MIXED, kind_at(MIXED, kind, spot))
        if known_at(MIXED, kind, facts, spot) is not None or len(makes) < 2 or len(makes) != len(tree[2]):
            return False
        return all(expected_right(cases, facts + [("is", spot, make[0])], inner) for make, inner in zip(makes, tree[2]))
    if tree[0] == "split":
        test = ("most",) + tree[1:4]
        return in_order(MIXED, kind, facts + [test]) and expected_right(cases, facts + [test], tree[4]) \
            and expected_right(cases, facts + [contrary(test)], tree[5])
    told = decided(MIXED, cases, facts)
    return told != "open" and tree == (NONE if told is None else ("row",) + told)


def spoilt(chance, kind, tree):
    """A tree with one thing changed by chance somewhere."""
    inner = behind(tree)
    if inner and chance.randint(0, 3):
        at = chance.randrange(len(inner))
        changed = inner[:at] + (spoilt(chance, kind, inner[at]),) + inner[at + 1:]
        return tree[:2] + (changed,) if tree[0] == "look" else tree[:4] + changed
    spots = [spot for spot, end in spots_within(MIXED, kind, 2)]
    numbers = [spot for spot, end in spots_within(MIXED, kind, 2) if end == "num"] + [None]
    around = chance.choice((split(chance.choice(numbers), chance.choice(numbers), chance.randint(-2, 2), tree, tree),
                            look(chance.choice(spots), tree, tree, tree)))
    if tree[0] == "look":
        return chance.choice((around, look(chance.choice(spots), *inner), look(tree[1], *inner[1:]), inner[0]))
    if tree[0] == "split":
        p, q, d, yes, no = tree[1:]
        return chance.choice((around, split(q, p, -d - 1, no, yes), split(p, q, d + 1, yes, no), split(p, q, d, no, yes), no))
    return chance.choice((around, row(chance.randint(-1, 3), chance.randint(0, 2)), NONE, ODDS))


class TreeTest(unittest.TestCase):
    def assert_tree(self, tree, right, own, cases=CASES, book=MIXED):
        self.assertIs(is_right(book, cases, tree), right, tree)
        self.assertIs(is_own(book, cases, tree), own, tree)


class TestRight(TreeTest):
    def test_leaves_alone(self):
        self.assert_tree(NONE, True, True, cases_of())
        self.assert_tree(NONE, True, True, cases_of(KNOT))
        self.assert_tree(row(0), True, True, cases_of(ANY))
        self.assert_tree(row(1), True, True, cases_of(KNOT, ANY))
        for tree in (row(0), row(0, 0), ODDS, row(-1)):
            self.assert_tree(tree, False, False, cases_of())
        for tree in (NONE, row(1), row(0, 1), row(-1), row(0, -1), ODDS, row(HUGE, HUGE), ("takes", 0), ("row",)):
            self.assert_tree(tree, False, False, cases_of(ANY))
        for tree in (NONE, row(0), ODDS):
            self.assert_tree(tree, False, False, cases_of(LEAFED))

    def test_an_own_tree(self):
        self.assertEqual(looks_of(MIXED, CASES), [("look", ()), ("split", None, (M,), 0), ("look", (L,))])
        self.assert_tree(TREE, True, True)
        other = look((L,), *[split(None, (M,), 0, row(0), row(1, k)) for k in (0, 1, 1)])
        self.assert_tree(look((), row(2), other, NONE), True, True)

    def test_a_leaf_turned(self):
        for tree in (look((), row(1), TREE[2][1], NONE), look((), NONE, TREE[2][1], NONE), look((), row(2), TREE[2][1], row(0)),
                     look((), row(2, 1), TREE[2][1], NONE), look((), row(2), split(None, (M,), 0, row(1), LOWER), NONE),
                     look((), row(2), split(None, (M,), 0, row(0), row(1)), NONE),
                     look((), row(2), split(None, (M,), 0, row(0), row(1, 1)), NONE),
                     look((), row(2), split(None, (M,), 0, row(0), look((L,), row(1), row(1), row(1, 1))), NONE),
                     look((), row(2), split(None, (M,), 0, row(0), look((L,), row(1, 1), row(1, 1), row(1, 1))), NONE),
                     look((), row(2), TREE[2][1], ODDS), look((), ODDS, TREE[2][1], NONE), look((), row(2), NONE, NONE)):
            self.assert_tree(tree, False, False)

    def test_looks_left_out(self):
        for tree in (TREE[2][1], look((), row(2), row(0), NONE), look((), row(2), LOWER, NONE), look((), row(2), TREE[2][1]),
                     look((), row(2), TREE[2][1], NONE, NONE), look((L,), row(1), row(1, 1), row(1, 1))):
            self.assert_tree(tree, False, False)

    def test_looks_that_are_none_of_the_cases_own(self):
        right = look((R,), *[TREE[2][1]] * 3)
        self.assert_tree(look((), row(2), right, NONE), True, False)
        self.assert_tree(look((), row(2), TREE[2][1], split((U,), None, 3, NONE, NONE)), True, False)
        self.assert_tree(look((), row(2), split((M,), None, 5, TREE[2][1], row(0)), NONE), True, False)

    def test_a_split_turned_about(self):
        turned = split((M,), None, -1, LOWER, row(0))
        self.assert_tree(look((), row(2), turned, NONE), True, False)
        self.assert_tree(look((), row(2), split((M,), None, -1, row(0), LOWER), NONE), False, False)
        self.assert_tree(look((), row(2), split(None, (M,), 0, LOWER, row(0)), NONE), False, False)
        self.assert_tree(look((), row(2), split(None, (M,), 1, row(0), LOWER), NONE), False, False)

    def test_a_look_again(self):
        again = look((), *[TREE[2][1]] * 3)
        self.assert_tree(look((), row(2), again, NONE), False, False)
        twice = split(None, (M,), 0, split(None, (M,), 0, row(0), ODDS), split(None, (M,), 0, ODDS, LOWER))
        self.assert_tree(look((), row(2), twice, NONE), True, True)

    def test_behind_facts_at_odds(self):
        for rest, own in ((ODDS, True), (NONE, True), (row(7, 7), True), (look((), NONE), True), (look((R,)), False),
                          (look((("stem", 0),), NONE), False), (split(None, None, 0, NONE, NONE), False),
                          (split(None, (M,), 0, NONE, NONE), True), (split((M,), None, -1, NONE, NONE), False),
                          (split(None, (M,), 0, NONE, split((M,), (M,), 0, ODDS, ODDS)), False)):
            inner = split(None, (M,), 0, split(None, (M,), 0, row(0), rest), LOWER)
            self.assert_tree(look((), row(2), inner, NONE), True, own)

    def test_odds_where_there_are_none(self):
        inner = split(None, (M,), 0, split(None, (M,), 0, ODDS, ODDS), LOWER)
        self.assert_tree(look((), row(2), inner, NONE), False, False)

    def test_no_spots(self):
        for tree in (look((("stem", 0),), NONE, NONE), split(None, None, 0, NONE, NONE), split((M,), None, 0, NONE, NONE),
                     look((M,), NONE), look((T, C), NONE, NONE)):
            self.assert_tree(tree, False, False, cases_of())
        self.assert_tree(look((), NONE, NONE, NONE), True, False, cases_of())

    def test_deep_trees(self):
        tree = wrong = NONE
        for number in range(1500):
            tree, wrong = split((), None, number, tree, NONE), split((), None, number, wrong, NONE if number else row(0))
        self.assert_tree(tree, True, False, cases_of(first="num"))
        self.assert_tree(wrong, False, False, cases_of(first="num"))
        self.assertEqual((depth(tree), leaves(tree)), (1500, 1501))
        self.assertEqual(gone(MIXED, tree, 1497), (NONE, 4))

    def test_by_chance(self):
        chance = random.Random(51)
        seen = {(True, True): 0, (True, False): 0, (False, False): 0}
        while min(seen.values()) < 60:
            cases = chance_cases(chance, MIXED, is_shape, 3)
            if outcomes(MIXED, cases) > 300:
                continue
            tree = tree_of(MIXED, cases)
            for turn in range(3):
                tree = spoilt(chance, cases[0], tree)
                right = expected_right(cases, [], tree)
                own = right and set(looks_in(tree)) <= set(looks_of(MIXED, cases))
                self.assert_tree(tree, right, own, cases)
                seen[(right, own)] += 1


class TestGone(unittest.TestCase):
    def test_a_leaf_alone(self):
        for leaf in (NONE, row(3, 1), ODDS):
            self.assertEqual(gone(MIXED, leaf, LEAF), (leaf, 0))
            self.assertEqual((depth(leaf), leaves(leaf)), (0, 1))

    def test_looks_and_splits(self):
        tip = ("tip", ("case", 0, 0), 0)
        for value, leaf, count in ((LEAF, row(2), 1), (tip, NONE, 1), (("node", tip, 0, LEAF), row(0), 2),
                                   (("node", tip, HUGE, LEAF), row(0), 2), (("node", LEAF, -1, LEAF), row(1), 3),
                                   (("node", tip, -1, LEAF), row(1, 1), 3), (("node", LEAF, -HUGE, tip), row(1), 3)):
            told = gone(MIXED, TREE, value)
            self.assertIsInstance(told, tuple)
            self.assertEqual(told, (leaf, count))

    def test_the_edge_of_a_split(self):
        for d in (0, 5, -5, HUGE):
            tree = split((), None, d, row(0), row(1))
            self.assertEqual([gone(MIXED, tree, d + more)[0] for more in (-1, 0, 1)], [row(0), row(0), row(1)])
            tree = split(None, (), d, row(0), row(1))
            self.assertEqual([gone(MIXED, tree, -d + more)[0] for more in (-1, 0, 1)], [row(1), row(0), row(0)])
        tree = split((C,), (("case", 1),), 2, row(0), row(1))
        self.assertEqual([gone(MIXED, tree, ("case", x, 5))[0] for x in (6, 7, 8)], [row(0), row(0), row(1)])

    def test_makes_that_come_are_counted(self):
        tree = look((("both", 2),), row(0), row(1), row(2))
        for at, pick in enumerate((("red",), ("blue",), ("grey", 4))):
            value = ("both", LEAF, ("case", 0, 0), pick, 0)
            self.assertEqual(gone(MIXED, tree, value), (row(at), 1))

    def test_depth_and_leaves(self):
        self.assertEqual((depth(TREE), leaves(TREE)), (3, 6))
        self.assertEqual((depth(look((), NONE, NONE, NONE)), leaves(look((), NONE, NONE, NONE))), (1, 3))
        tree = split((), None, 0, NONE, split((), None, 1, NONE, ODDS))
        self.assertEqual((depth(tree), leaves(tree)), (2, 3))
        self.assertEqual((depth(split((), None, 0, tree, NONE)), leaves(split((), None, 0, tree, tree))), (3, 6))


class TestTreeOf(TreeTest):
    def assert_told(self, cases, values, book=MIXED):
        tree = tree_of(book, cases)
        self.assert_tree(tree, True, True, cases, book)
        self.assertEqual(tree, tree_of(book, cases))
        self.assertEqual(leaves(tree), len([inner for inner in every(tree) if not behind(inner)]))
        for value in values:
            leaf, count = gone(book, tree, value)
            self.assertLessEqual(count, depth(tree))
            told = answer_of(cases, value)
            if told is None:
                self.assertEqual(leaf, NONE)
            else:
                self.assertEqual(leaf, row(told[0], line_of(book, cases, told[0], value)))
        return tree

    def test_no_rows_all_rows_some_rows(self):
        values = [LEAF, ("tip", ("case", 0, 0), 0), ("node", LEAF, -1, LEAF), ("node", ("node", LEAF, 0, LEAF), 0, LEAF),
                  ("node", ("tip", ("case", 0, 0), 0), -5, LEAF)]
        self.assertEqual(self.assert_told(cases_of(), values), NONE)
        self.assertEqual(self.assert_told(cases_of(KNOT), values), NONE)
        self.assertEqual(self.assert_told(cases_of(ANY), values), row(0))
        self.assertEqual(self.assert_told(cases_of(KNOT, ANY, TIP), values), row(1))
        self.assertEqual(self.assert_told(cases_of(NODE, TIP, LEAFED), values), look((), row(2), row(0), row(1)))
        self.assertEqual(self.assert_told(cases_of(NODE), values), look((), NONE, row(0), NONE))
        self.assert_told(CASES, values)

    def test_a_split_just_as_it_stands(self):
        cases = cases_of(("num", None, -1), UP, first="num")
        self.assertEqual(self.assert_told(cases, [-1, 0, 1]), split((), None, -1, row(0), row(1)))
        cases = cases_of(UP, ("num", None, -1), first="num")
        self.assertEqual(self.assert_told(cases, [-1, 0, 1]), split(None, (), 0, row(0), row(1)))
        spans = cases_of(("num", 5, 9), ("num", None, 4), ("num", 10, None), first="num")
        self.assert_told(spans, list(range(12)))
        turned = cases_of(node(LEAFED, UP), node(TIP, ("num", None, -1)), node(ANY, ("num", 1, None)))
        self.assert_told(turned, [("node", LEAF, number, LEAF) for number in (-1, 0, 1)])

    def test_at_the_edge_and_too_many(self):
        spans = [("num", 0, 9), ("num", 0, 9), UP]
        self.assert_told(cases_of(rack(4, 0, spans), first="rack"), [], RACKS)
        for cases in (cases_of(rack(3, 4, [UP]), first="rack"), cases_of(ANY, rack(4, 1, spans), first="rack")):
            with self.assertRaises(TooMany):
                tree_of(RACKS, cases)
            self.assertIs(is_right(RACKS, cases, NONE), False)
            self.assertIs(is_own(RACKS, cases, row(0)), cases[2][0][0] == ANY)

    def test_by_chance(self):
        chance = random.Random(52)
        count = 0
        while count < 200:
            cases = chance_cases(chance, MIXED, is_shape)
            if outcomes(MIXED, cases) <= 3000:
                count += 1
                self.assert_told(cases, [chance_value(chance, MIXED, cases[0], 3) for turn in range(8)])

    def test_nothing_is_changed(self):
        told = copy.deepcopy((MIXED, CASES, TREE))
        for turn in range(2):
            self.assertIs(is_own(*told), True)
            self.assertEqual(gone(told[0], told[2], LEAF), (row(2), 1))
            self.assertEqual((depth(told[2]), leaves(told[2])), (3, 6))
        self.assertEqual(told, (MIXED, CASES, TREE))


if __name__ == "__main__":
    unittest.main()
