"""[5.1] to [5.4]: facts in order, reach and odds, words, cases decided."""

import copy
import itertools
import random
import unittest

from samples import (ANY, HUGE, MIXED, NODE, chance_cases, chance_facts, chance_test, chance_value, coming,
                     spots_within)
from shapecourt.cases import line_of, row_lines, takes, told
from shapecourt.errors import NoRow
from shapecourt.facts import (at_odds, decided, in_order, known_at, line_word, met, reach, row_word, stands, word_of)
from shapecourt.lines import contrary, holds
from shapecourt.shapes import is_shape
from shapecourt.spots import kind_at
from shapecourt.values import is_value

L, M, R = ("node", 0), ("node", 1), ("node", 2)
T, U = ("tip", 0), ("tip", 1)
C, D = ("case", 0), ("case", 1)
IS_NODE, IS_TIP, IS_LEAF = ("is", (), "node"), ("is", (), "tip"), ("is", (), "leaf")
LEAFED = ("make", "leaf", ())
# Five spots of num that stand without facts: a book whose kinds have a make each.
ROW = (("row", (("row", ("num", "num", "two")),)), ("two", (("two", ("num", "num", "num")),)))
A, B = (("row", 0),), (("row", 1),)
E, F, G = [(("row", 2), ("two", i)) for i in range(3)]


def expected_known(book, kind, facts, spot):
    """The make known at a spot, by the words of the document."""
    makes = [test[2] for test in facts if test[0] == "is" and test[1] == spot]
    sole = coming(book, kind_at(book, kind, spot))
    return makes[0] if makes else sole[0][0] if len(sole) == 1 else None


def expected_stands(book, kind, facts, spot):
    for length, (make, i) in enumerate(spot):
        sole = len(coming(book, kind_at(book, kind, spot[:length]))) == 1
        if not sole and ("is", spot[:length], make) not in facts:
            return False
    return True


def expected_order(book, kind, facts):
    spots = dict(spots_within(book, kind, 4))
    for number, test in enumerate(facts):
        ahead = facts[:number]
        told_spots = [test[1]] if test[0] == "is" else [spot for spot in test[1:3] if spot is not None]
        for spot in told_spots:
            if spot not in spots or not expected_stands(book, kind, ahead, spot):
                return False
        if test[0] == "is":
            makes = [make for make, fields in coming(book, spots[test[1]])]
            if test[2] not in makes or expected_known(book, kind, ahead, test[1]) is not None:
                return False
        elif test[1] == test[2] or any(spots[spot] != "num" for spot in told_spots):
            return False
    return True


def least_ways(facts):
    """The least sum from each spot to each, by all middle spots in turn."""
    mosts = [test for test in facts if test[0] == "most"]
    spots = list({None} | {spot for test in mosts for spot in test[1:3]})
    ways = {(spot, spot): 0 for spot in spots}
    for word, p, q, d in mosts:
        ways[p, q] = min(d, ways.get((p, q), d))
    for middle, p, q in itertools.product(spots, repeat=3):
        if (p, middle) in ways and (middle, q) in ways:
            ways[p, q] = min(ways[p, middle] + ways[middle, q], ways.get((p, q), 10 ** 80))
    return ways


def expected_odds(facts):
    ways = least_ways(facts)
    return any(ways[p, q] < 0 for p, q in ways if p == q)


def expected_word(book, kind, facts, test):
    spots = [test[1]] if test[0] == "is" else [spot for spot in test[1:3] if spot is not None]
    for spot in spots:
        for length, (make, i) in enumerate(spot):
            if expected_stands(book, kind, facts, spot[:length]):
                known = expected_known(book, kind, facts, spot[:length])
                if known is not None and known != make:
                    return "barred"
    if not all(expected_stands(book, kind, facts, spot) for spot in spots):
        return "open"
    if test[0] == "is":
        known = expected_known(book, kind, facts, test[1])
        return "open" if known is None else "sure" if known == test[2] else "barred"
    ways = least_ways(facts)
    word, p, q, d = test
    ways[p, p] = ways[q, q] = 0
    if (p, q) in ways and ways[p, q] <= d:
        return "sure"
    return "barred" if (q, p) in ways and ways[q, p] <= -d - 1 else "open"


class TestInOrder(unittest.TestCase):
    def assert_order(self, facts, expected=True, kind="tree", book=MIXED):
        self.assertIs(in_order(book, kind, facts), expected, facts)
        self.assertIs(in_order(book, kind, tuple(facts)), expected, facts)

    def test_facts_that_stand(self):
        for facts in ([], [IS_NODE], [IS_LEAF], [IS_TIP], [IS_NODE, ("is", (L,), "node"), ("is", (R,), "leaf")],
                      [IS_NODE, ("is", (L,), "tip"), ("most", (L, U), (M,), -3), ("most", (L, T, C), None, HUGE)],
                      [IS_NODE, ("most", (M,), None, 0), ("most", (M,), None, 0), ("most", None, (M,), -HUGE)],
                      [IS_TIP, ("most", (T, C), (T, D), 0), ("most", (U,), (T, D), 5)]):
            self.assert_order(facts)

    def test_spots_that_do_not_stand(self):
        for facts in ([("is", (L,), "node")], [("most", (M,), None, 0)], [("most", None, (M,), 0)],
                      [IS_LEAF, ("is", (L,), "node")], [IS_TIP, ("most", (M,), None, 0)],
                      [IS_NODE, ("is", (L, L), "leaf")], [IS_NODE, ("is", (L,), "tip"), ("is", (L, L), "leaf")],
                      [IS_NODE, ("most", (M,), (L, M), 0)], [IS_NODE, ("most", (L, M), (M,), 0)],
                      [IS_NODE, ("is", (L,), "node"), ("most", (R, M), None, 0)]):
            self.assert_order(facts, False)

    def test_a_fact_that_would_stand_behind_a_later_one(self):
        self.assert_order([("is", (L,), "leaf"), IS_NODE], False)
        self.assert_order([IS_NODE, ("is", (L,), "leaf")])
        self.assert_order([("most", (M,), None, 0), IS_NODE], False)
        self.assert_order([IS_NODE, ("is", (L, R), "leaf"), ("is", (L,), "node")], False)
        self.assert_order([IS_NODE, ("is", (L,), "node"), ("is", (L, R), "leaf")])

    def test_a_make_known_already(self):
        for make in ("node", "leaf", "tip"):
            self.assert_order([IS_NODE, ("is", (), make)], False)
            self.assert_order([IS_NODE, ("is", (L,), "node"), ("is", (L,), make)], False)
            self.assert_order([IS_NODE, ("is", (L,), "node"), ("is", (R,), make)])

    def test_the_only_make_that_comes(self):
        self.assert_order([("is", (), "case")], False, "box")
        self.assert_order([("is", (), "both")], False, "pair")
        self.assert_order([IS_TIP, ("is", (T,), "case")], False)
        self.assert_order([("is", (("both", 0),), "leaf")], True, "pair")
        self.assert_order([("is", (("both", 1),), "case")], False, "pair")
        self.assert_order([("is", (("both", 2),), "grey"), ("most", (("both", 2), ("grey", 0)), (("both", 3),), 0)],
                          True, "pair")

    def test_a_make_that_does_not_come_or_of_no_kind(self):
        for make in ("knot", "turn", "red", "case", "stem", "", "tree", "num"):
            self.assert_order([("is", (), make)], False)
            self.assert_order([IS_NODE, ("is", (L,), make)], False)
        self.assert_order([("is", (), "void")], False, "box")

    def test_is_at_a_number(self):
        for make in ("node", "num", "leaf"):
            self.assert_order([IS_NODE, ("is", (M,), make)], False)
            self.assert_order([("is", (), make)], False, "num")

    def test_spots_of_no_kind(self):
        for spot in ((("node", 3),), (("node", -1),), (("node", HUGE),), (("stem", 0),), (("knot", 0),), (("leaf", 0),),
                     (("grey", 0),), (M, M), (M, L), (L, ("node", 3))):
            self.assert_order([IS_NODE, ("is", (L,), "node"), ("is", spot, "leaf")], False)
            for p, q in ((spot, None), (None, spot), (spot, (M,)), ((M,), spot)):
                self.assert_order([IS_NODE, ("is", (L,), "node"), ("most", p, q, 0)], False)
        self.assert_order([IS_LEAF, ("most", (("leaf", 0),), None, 0)], False)

    def test_most_at_no_number(self):
        for spot in ((), (L,), (R,)):
            for p, q in ((spot, None), (None, spot), (spot, (M,)), ((M,), spot)):
                self.assert_order([IS_NODE, ("most", p, q, 0)], False)
        self.assert_order([IS_TIP, ("most", (T,), None, 0)], False)

    def test_p_and_q_alike(self):
        self.assert_order([IS_NODE, ("most", (M,), (M,), 0)], False)
        self.assert_order([("most", None, None, 0)], False)
        self.assert_order([IS_NODE, ("most", None, None, 5)], False)
        self.assert_order([("most", (), (), 0)], False, "num")

    def test_values_of_num(self):
        self.assert_order([("most", (), None, 3), ("most", None, (), -1)], True, "num")
        self.assert_order([], True, "num")
        self.assert_order([("most", (), (L,), 3)], False, "num")

    def test_facts_at_odds_are_in_order_too(self):
        facts = [IS_NODE, ("most", (M,), None, 0), ("most", None, (M,), -1)]
        self.assert_order(facts)
        self.assert_order(facts + [("is", (L,), "leaf"), ("most", (M,), None, 7)])
        self.assert_order(facts + [("is", (L, L), "leaf")], False)

    def test_by_chance(self):
        chance = random.Random(15)
        seen = {True: 0, False: 0}
        for number in range(1500):
            kind = chance.choice(("tree", "tree", "pair", "box", "pick", "num"))
            drawn = [chance_test(chance, MIXED, kind, 2) for turn in range(chance.randint(0, 4))]
            facts = [test for test in drawn if test is not None]
            expected = expected_order(MIXED, kind, facts)
            seen[expected] += 1
            self.assert_order(facts, expected, kind)
        self.assertGreater(min(seen.values()), 100)


class TestStands(unittest.TestCase):
    def assert_stands(self, facts, spot, expected, kind="tree"):
        self.assertIs(stands(MIXED, kind, facts, spot), expected)
        self.assertIs(stands(MIXED, kind, tuple(facts), spot), expected)

    def test_the_whole(self):
        for kind in ("tree", "box", "pair", "pick", "num"):
            self.assert_stands([], (), True, kind)

    def test_by_an_is(self):
        facts = [IS_NODE, ("is", (L,), "tip")]
        for spot in ((L,), (M,), (R,), (L, T), (L, U), (L, T, C), (L, T, D)):
            self.assert_stands(facts, spot, True)
            self.assert_stands([], spot, False)
        for spot in ((L, L), (L, M), (R, L), (R, T), (T,), (U,), (T, C), (R, M), (L, L, M)):
            self.assert_stands(facts, spot, False)

    def test_by_the_only_make_that_comes(self):
        for spot in ((C,), (D,)):
            self.assert_stands([], spot, True, "box")
        for spot in ((("both", 0),), (("both", 1), C), (("both", 3),)):
            self.assert_stands([], spot, True, "pair")
        for spot in ((("both", 0), L), (("both", 2), ("grey", 0))):
            self.assert_stands([], spot, False, "pair")
        self.assert_stands([("is", (("both", 0),), "tip")], (("both", 0), T, C), True, "pair")

    def test_known_at(self):
        facts = [IS_NODE, ("is", (L,), "tip"), ("most", (M,), None, 3)]
        for spot, make in (((), "node"), ((L,), "tip"), ((R,), None), ((M,), None), ((L, T), "case"), ((L, U), None),
                           ((L, T, C), None)):
            self.assertEqual(known_at(MIXED, "tree", facts, spot), make)
            self.assertEqual(known_at(MIXED, "tree", tuple(facts), spot), make)
        self.assertIsNone(known_at(MIXED, "tree", [], ()))
        self.assertIsNone(known_at(MIXED, "num", [], ()))
        self.assertEqual(known_at(MIXED, "box", [], ()), "case")
        self.assertEqual(known_at(MIXED, "pair", [], (("both", 1),)), "case")
        self.assertIsNone(known_at(MIXED, "pair", [], (("both", 2),)))

    def test_nothing_is_known_at_a_spot_that_does_not_stand(self):
        for facts, spot in (([], (T,)), ([IS_LEAF], (T,)), ([IS_NODE], (T,)), ([IS_NODE], (L, T)),
                            ([IS_NODE, ("is", (L,), "leaf")], (L, T)), ([], (L,)), ([IS_TIP], (L, T))):
            self.assertIsNone(known_at(MIXED, "tree", facts, spot))
            self.assertIs(stands(MIXED, "tree", facts, spot), False)

    def test_by_chance(self):
        chance = random.Random(16)
        for number in range(60):
            kind = chance.choice(("tree", "pair", "box", "pick", "num"))
            facts = chance_facts(chance, MIXED, kind, in_order)
            for spot, end in spots_within(MIXED, kind, 3):
                standing = expected_stands(MIXED, kind, facts, spot)
                self.assertIs(stands(MIXED, kind, facts, spot), standing)
                if standing:
                    self.assertEqual(known_at(MIXED, kind, facts, spot), expected_known(MIXED, kind, facts, spot))


class TestReach(unittest.TestCase):
    def test_no_way(self):
        self.assertIsNone(reach([], A, B))
        self.assertIsNone(reach([], A, None))
        self.assertIsNone(reach([("most", A, B, 4)], B, A))
        self.assertIsNone(reach([("most", A, B, 4)], A, None))
        self.assertIsNone(reach([("most", A, B, 4), ("most", E, None, 4)], A, None))
        self.assertIsNone(reach([("most", A, B, 4), ("most", E, B, 4)], A, E))

    def test_from_a_spot_to_itself(self):
        for facts in ([], [("most", A, B, 4)], [("most", A, B, 4), ("most", B, A, -4)], [("most", A, B, 4), ("most", B, A, 3)]):
            for spot in (A, B, E, None):
                self.assertEqual(reach(facts, spot, spot), 0)

    def test_one_fact(self):
        for d in (0, 5, -5, HUGE, -HUGE):
            self.assertEqual(reach([("most", A, B, d)], A, B), d)
            self.assertEqual(reach([("most", A, None, d)], A, None), d)
            self.assertEqual(reach((("most", None, A, d),), None, A), d)

    def test_ways_of_several_facts(self):
        facts = [("most", E, F, 3), ("most", A, B, 1), ("most", F, G, -7), ("most", B, E, 2)]
        for p, q, d in ((A, B, 1), (A, E, 3), (A, F, 6), (A, G, -1), (B, G, -2), (E, G, -4)):
            self.assertEqual(reach(facts, p, q), d)
            self.assertEqual(reach(facts[::-1], p, q), d)
            self.assertIsNone(reach(facts, q, p))

    def test_the_least_of_two_ways(self):
        facts = [("most", A, B, 9), ("most", B, E, 1), ("most", A, F, 2), ("most", F, E, 3), ("most", A, B, 5),
                 ("most", A, B, 7)]
        self.assertEqual(reach(facts, A, E), 5)
        self.assertEqual(reach(facts[:3] + facts[4:], A, E), 6)
        self.assertEqual(reach(facts + [("most", A, B, 3)], A, E), 4)
        self.assertEqual(reach(facts + [("most", A, E, 4)], A, E), 4)
        self.assertEqual(reach(facts + [("most", A, E, 6)], A, E), 5)

    def test_by_none(self):
        facts = [("most", A, None, 4), ("most", None, B, -1)]
        self.assertEqual(reach(facts, A, B), 3)
        self.assertEqual(reach(facts, A, None), 4)
        self.assertEqual(reach(facts, None, B), -1)

    def test_is_does_not_count(self):
        self.assertEqual(reach([IS_NODE, ("most", (M,), None, 4)], (M,), None), 4)
        self.assertIs(at_odds([IS_NODE, ("is", (L,), "leaf")]), False)

    def test_sums_just_at_nought_and_just_below(self):
        for d in (0, 3, -3, HUGE, -HUGE):
            self.assertIs(at_odds([("most", A, B, d), ("most", B, A, -d)]), False)
            self.assertIs(at_odds([("most", A, B, d), ("most", B, A, 1 - d)]), False)
            self.assertIs(at_odds([("most", A, B, d), ("most", B, A, -d - 1)]), True)
            self.assertIs(at_odds((("most", A, None, d), ("most", None, A, -d))), False)
            self.assertIs(at_odds((("most", A, None, d), ("most", None, A, -d - 1))), True)

    def test_longer_rounds(self):
        facts = [("most", A, B, 5), ("most", B, E, -3), ("most", E, None, 4), ("most", None, F, -9), ("most", F, A, 3)]
        for order in itertools.permutations(facts):
            self.assertIs(at_odds(list(order)), False)
            self.assertIs(at_odds(list(order) + [("most", F, A, 2)]), True)
        for at in range(5):
            word, p, q, d = facts[at]
            self.assertIs(at_odds(facts[:at] + [("most", p, q, d - 1)] + facts[at + 1:]), True)
            self.assertIs(at_odds(facts[:at] + facts[at + 1:]), False)

    def test_odds_stay(self):
        odd = [("most", A, B, 0), ("most", B, A, -1)]
        for more in ([("most", E, F, 1)], [("most", A, B, 9), ("most", B, A, 9)], [("most", None, A, 3)]):
            self.assertIs(at_odds(odd + more), True)
            self.assertIs(at_odds(more + odd), True)

    def test_by_chance(self):
        chance = random.Random(17)
        spots = (None, A, B, E, F, G)
        seen = {True: 0, False: 0}
        for number in range(1200):
            facts = []
            for turn in range(chance.randint(0, 9)):
                p, q = chance.sample(spots, 2)
                facts.append(("most", p, q, chance.choice((0, 1, 2, 3, 4, 5, -1, -2, HUGE, -HUGE))))
            odds = expected_odds(facts)
            seen[odds] += 1
            self.assertIs(at_odds(facts), odds)
            if not odds:
                ways = least_ways(facts)
                for p, q in itertools.product(spots, repeat=2):
                    self.assertEqual(reach(facts, p, q), 0 if p == q else ways.get((p, q)))
        self.assertGreater(min(seen.values()), 100)


class TestMet(unittest.TestCase):
    def assert_met(self, book, kind, facts):
        for told_facts in (facts, tuple(facts)):
            value = met(book, kind, told_facts)
            self.assertIs(is_value(book, kind, value), True)
            for test in facts:
                self.assertIs(holds(value, test), True, (value, test))

    def test_no_facts(self):
        for kind in ("tree", "box", "pair", "pick", "num"):
            self.assert_met(MIXED, kind, [])

    def test_makes(self):
        for facts in ([IS_NODE], [IS_LEAF], [IS_TIP], [IS_NODE, ("is", (L,), "node"), ("is", (L, R), "tip")],
                      [IS_NODE, ("is", (R,), "node"), ("is", (L,), "node"), ("is", (R, L), "node"), ("is", (L, L), "leaf")]):
            self.assert_met(MIXED, "tree", facts)
        self.assert_met(MIXED, "pair", [("is", (("both", 2),), "grey"), ("is", (("both", 0),), "tip")])

    def test_numbers(self):
        for d in (0, 7, -7, HUGE, -HUGE):
            self.assert_met(MIXED, "num", [("most", (), None, d)])
            self.assert_met(MIXED, "num", [("most", None, (), d)])
            self.assert_met(MIXED, "num", [("most", None, (), d), ("most", (), None, -d)])

    def test_spots_tied_to_one_another(self):
        for d in (0, 7, -7, HUGE, -HUGE):
            self.assert_met(ROW, "row", [("most", A, B, d)])
            self.assert_met(ROW, "row", [("most", A, B, d), ("most", B, A, -d)])
            self.assert_met(ROW, "row", [("most", A, B, d), ("most", B, None, d), ("most", None, A, -2 * d)])
            self.assert_met(ROW, "row", [("most", A, B, d), ("most", E, B, -d), ("most", None, E, 3), ("most", B, F, 9)])

    def test_makes_and_numbers(self):
        facts = [IS_NODE, ("is", (L,), "tip"), ("most", (L, T, C), (M,), -5), ("most", (M,), (L, T, D), 0),
                 ("most", None, (L, T, C), -100), ("is", (R,), "node"), ("most", (R, M), (L, U), -HUGE),
                 ("most", (L, U), None, -HUGE)]
        self.assert_met(MIXED, "tree", facts)

    def test_by_chance(self):
        chance = random.Random(18)
        for number in range(300):
            kind = chance.choice(("tree", "pair", "box", "pick", "num"))
            facts = chance_facts(chance, MIXED, kind, kept)
            self.assert_met(MIXED, kind, facts)


def kept(book, kind, facts):
    return in_order(book, kind, facts) and not at_odds(facts)


class TestWords(unittest.TestCase):
    def assert_word(self, facts, test, word, kind="tree", book=MIXED):
        self.assertEqual(word_of(book, kind, facts, test), word)
        self.assertEqual(word_of(book, kind, tuple(facts), test), word)

    def test_barred_by_another_make_on_the_way(self):
        facts = [IS_NODE, ("is", (L,), "tip")]
        for spot in ((T,), (T, C), (U,), (L, M), (L, L, M), (L, L, R, M)):
            if spot[-1] in (M, U, C):
                self.assert_word(facts, ("most", spot, None, 0), "barred")
                self.assert_word(facts, ("most", None, spot, 0), "barred")
                self.assert_word(facts, ("most", spot, (M,), 0), "barred")
                self.assert_word(facts, ("most", (M,), spot, 0), "barred")
                self.assert_word(facts, ("most", spot, spot, 0), "barred")
        for spot in ((L, L), (L, R, L)):
            self.assert_word(facts, ("is", spot, "leaf"), "barred")
        self.assert_word(facts, ("is", (T,), "case"), "barred")

    def test_barred_ahead_of_open(self):
        facts = [IS_NODE, ("is", (L,), "tip")]
        self.assert_word(facts, ("most", (R, M), (L, M), 0), "barred")
        self.assert_word(facts, ("most", (L, M), (R, M), 0), "barred")
        self.assert_word(facts, ("most", (R, R, M), (U,), 0), "barred")

    def test_open_where_a_spot_does_not_stand(self):
        for facts, spot in (([], (M,)), ([], (T, C)), ([IS_NODE], (L, M)), ([IS_NODE], (R, L, M)), ([IS_NODE], (L, U))):
            self.assert_word(facts, ("most", spot, None, 0), "open")
            self.assert_word(facts, ("most", None, spot, HUGE), "open")
            self.assert_word(facts, ("most", spot, spot, 0), "open")
            self.assert_word(facts, ("most", spot, spot, -1), "open")
        self.assert_word([], ("is", (L,), "leaf"), "open")
        self.assert_word([IS_NODE], ("is", (L, L), "leaf"), "open")
        self.assert_word([], ("is", (T,), "case"), "open")
        self.assert_word([IS_NODE, ("most", (M,), None, 0)], ("most", (M,), (L, M), 0), "open")

    def test_is(self):
        facts = [IS_NODE, ("is", (L,), "tip")]
        self.assert_word(facts, IS_NODE, "sure")
        self.assert_word(facts, IS_LEAF, "barred")
        self.assert_word(facts, IS_TIP, "barred")
        self.assert_word(facts, ("is", (L,), "tip"), "sure")
        self.assert_word(facts, ("is", (L,), "leaf"), "barred")
        self.assert_word(facts, ("is", (R,), "leaf"), "open")
        self.assert_word([], IS_NODE, "open")

    def test_is_of_the_only_make_that_comes(self):
        self.assert_word([], ("is", (), "case"), "sure", "box")
        self.assert_word([], ("is", (), "both"), "sure", "pair")
        self.assert_word([IS_TIP], ("is", (T,), "case"), "sure")

    def test_most(self):
        facts = [("most", A, B, 3), ("most", B, None, 2), ("most", None, E, -4)]
        for p, q, least in ((A, B, 3), (B, None, 2), (A, None, 5), (None, E, -4), (A, E, 1), (B, E, -2)):
            for d in (least, least + 1, HUGE):
                self.assert_word(facts, ("most", p, q, d), "sure", "row", ROW)
                self.assert_word(facts, ("most", q, p, -d - 1), "barred", "row", ROW)
            for d in (least - 1, -HUGE):
                self.assert_word(facts, ("most", p, q, d), "open", "row", ROW)
                self.assert_word(facts, ("most", q, p, -d - 1), "open", "row", ROW)

    def test_most_of_huge_numbers(self):
        facts = [("most", A, B, HUGE), ("most", B, A, -HUGE)]
        for d, word in ((HUGE - 1, "barred"), (HUGE, "sure"), (HUGE + 1, "sure")):
            self.assert_word(facts, ("most", A, B, d), word, "row", ROW)

    def test_most_of_a_spot_to_itself(self):
        for facts in ([], [("most", A, B, 3)]):
            for d, word in ((0, "sure"), (1, "sure"), (HUGE, "sure"), (-1, "barred"), (-HUGE, "barred")):
                self.assert_word(facts, ("most", A, A, d), word, "row", ROW)

    def test_lines(self):
        facts = [IS_NODE, ("most", (M,), None, 3)]
        sure, barred, unsure = IS_NODE, ("is", (T,), "case"), ("is", (L,), "leaf")
        for tests, word in (((), "sure"), ((sure,), "sure"), ((sure, sure), "sure"), ((barred,), "barred"),
                            ((unsure,), "open"), ((sure, unsure), "open"), ((unsure, sure), "open"),
                            ((unsure, barred), "barred"), ((barred, unsure), "barred"), ((sure, unsure, barred), "barred"),
                            ((sure, barred), "barred"), ((("most", (M,), None, 3), sure), "sure"),
                            ((("most", (M,), None, 2), sure), "open"), ((("most", None, (M,), -4), sure), "barred")):
            for held in ((), (("x", (M,)),)):
                self.assertEqual(line_word(MIXED, "tree", facts, (tests, held)), word)
                self.assertEqual(line_word(MIXED, "tree", tuple(facts), (tests, held)), word)

    def test_by_chance_and_by_values(self):
        chance = random.Random(19)
        seen = {}
        for number in range(250):
            kind = chance.choice(("tree", "tree", "pair", "box", "num"))
            facts = chance_facts(chance, MIXED, kind, kept, 5)
            meeting = [met(MIXED, kind, facts)]
            for turn in range(12):
                value = chance_value(chance, MIXED, kind, 3)
                if all(holds(value, test) for test in facts):
                    meeting.append(value)
            for turn in range(12):
                test = chance_test(chance, MIXED, kind)
                if test is None:
                    continue
                word = word_of(MIXED, kind, facts, test)
                self.assertEqual(word, expected_word(MIXED, kind, facts, test))
                seen[word] = seen.get(word, 0) + 1
                if word != "open":
                    for value in meeting:
                        self.assertIs(holds(value, test), word == "sure")
                elif kept(MIXED, kind, facts + [test]):
                    self.assertTrue(holds(met(MIXED, kind, facts + [test]), test))
                if word == "open" and test[0] == "most" and kept(MIXED, kind, facts + [contrary(test)]):
                    self.assertFalse(holds(met(MIXED, kind, facts + [contrary(test)]), test))
        self.assertGreater(min(seen[word] for word in ("sure", "barred", "open")), 50)


KNOT = ("make", "knot", (ANY,))
POSITIVE = ("make", "node", (ANY, ("num", 1, None), ANY))
CASES = ("tree", "num", (
    (KNOT, (), ("num", 9)),
    (("either", (LEAFED, POSITIVE)), (), ("num", 0)),
    (NODE, (), ("num", 1)),
    (ANY, (), ("num", 2)),
))


class TestRowWords(unittest.TestCase):
    def assert_words(self, facts, words, cases=CASES):
        for i, word in enumerate(words):
            self.assertEqual(row_word(MIXED, cases, facts, i), word)
            self.assertEqual(row_word(MIXED, cases, tuple(facts), i), word)

    def assert_decided(self, facts, expected, cases=CASES):
        self.assertEqual(decided(MIXED, cases, facts), expected)
        self.assertEqual(decided(MIXED, cases, tuple(facts)), expected)

    def test_rows(self):
        self.assert_words([], ("barred", "open", "open", "sure"))
        self.assert_words([IS_LEAF], ("barred", "sure", "barred", "sure"))
        self.assert_words([IS_TIP], ("barred", "barred", "barred", "sure"))
        self.assert_words([IS_NODE], ("barred", "open", "sure", "sure"))
        self.assert_words([IS_NODE, ("most", None, (M,), -1)], ("barred", "sure", "sure", "sure"))
        self.assert_words([IS_NODE, ("most", (M,), None, 0)], ("barred", "barred", "sure", "sure"))

    def test_a_sure_line_behind_open_ones(self):
        cases = ("tree", "num", ((("either", (LEAFED, NODE, ANY)), (), ("num", 0)),))
        self.assert_words([], ("sure",), cases)
        self.assert_decided([], "open", cases)
        self.assert_decided([IS_LEAF], (0, 0), cases)
        self.assert_decided([IS_NODE], (0, 1), cases)
        self.assert_decided([IS_TIP], (0, 2), cases)

    def test_decided(self):
        self.assert_decided([], "open")
        self.assert_decided([IS_LEAF], (1, 0))
        self.assert_decided([IS_NODE], "open")
        self.assert_decided([IS_NODE, ("most", None, (M,), -1)], (1, 1))
        self.assert_decided([IS_NODE, ("most", (M,), None, 0)], (2, 0))
        self.assert_decided([IS_NODE, ("most", (M,), None, 1)], "open")
        self.assert_decided([IS_TIP], (3, 0))

    def test_all_barred(self):
        cases = CASES[:2] + (CASES[2][:3],)
        self.assert_decided([IS_TIP], None, cases)
        self.assert_decided([], "open", cases)
        self.assert_decided([IS_NODE, ("most", (M,), None, 0)], (2, 0), cases)
        for facts in ([], [IS_NODE]):
            self.assert_decided(facts, None, ("tree", "num", ()))
            self.assert_decided(facts, None, ("tree", "num", ((KNOT, (), ("num", 0)),) * 3))

    def test_guards(self):
        shape = ("make", "node", (("make", "node", (ANY, ("held", "x", ANY), ANY)), ("held", "y", ANY), ANY))
        cases = ("tree", "num", ((shape, (("x", "<", "y"),), ("held", "x")), (shape, (("x", "<", "x"),), ("num", 0))))
        facts = [IS_NODE, ("is", (L,), "node")]
        self.assert_words(facts, ("open", "barred"), cases)
        self.assert_words(facts + [("most", (L, M), (M,), -1)], ("sure", "barred"), cases)
        self.assert_words(facts + [("most", (M,), (L, M), 0)], ("barred", "barred"), cases)
        self.assert_words([IS_NODE], ("open", "open"), cases)
        self.assert_decided(facts + [("most", (L, M), None, 3), ("most", None, (M,), -4)], (0, 0), cases)
        self.assert_decided(facts + [("most", (L, M), None, 3), ("most", None, (M,), -3)], "open", cases)

    def test_no_row(self):
        for cases, numbers in ((CASES, (-1, -4, 4, HUGE)), (("tree", "num", ()), (0, -1))):
            for i in numbers:
                with self.assertRaises(NoRow):
                    row_word(MIXED, cases, [], i)

    def test_by_chance(self):
        chance = random.Random(20)
        seen = {}
        for number in range(200):
            cases = chance_cases(chance, MIXED, is_shape)
            facts = chance_facts(chance, MIXED, cases[0], kept, 4)
            meeting = [met(MIXED, cases[0], facts)]
            for turn in range(20):
                value = chance_value(chance, MIXED, cases[0], 3)
                if all(holds(value, test) for test in facts):
                    meeting.append(value)
            for i in range(len(cases[2])):
                words = [line_word(MIXED, cases[0], facts, line) for line in row_lines(MIXED, cases, i)]
                word = "sure" if "sure" in words else "open" if "open" in words else "barred"
                self.assertEqual(row_word(MIXED, cases, facts, i), word)
                if word != "open":
                    self.assertEqual({takes(MIXED, cases, i, value) for value in meeting}, {word == "sure"})
            answer = decided(MIXED, cases, facts)
            seen[type(answer)] = True
            for value in meeting:
                if answer is None:
                    self.assertIsNone(told(MIXED, cases, value))
                elif answer != "open":
                    self.assertEqual(told(MIXED, cases, value)[0], answer[0])
                    self.assertEqual(line_of(MIXED, cases, answer[0], value), answer[1])
        self.assertEqual(set(seen), {type(None), tuple, str})


class TestQuestions(unittest.TestCase):
    def test_nothing_is_changed(self):
        facts = [IS_NODE, ("is", (L,), "leaf"), ("most", (M,), None, 3)]
        told_facts, book, cases = copy.deepcopy((facts, MIXED, CASES))
        for question in (lambda: in_order(book, "tree", told_facts), lambda: stands(book, "tree", told_facts, (L,)),
                         lambda: known_at(book, "tree", told_facts, (L,)), lambda: at_odds(told_facts),
                         lambda: reach(told_facts, (M,), None), lambda: met(book, "tree", told_facts),
                         lambda: word_of(book, "tree", told_facts, IS_LEAF),
                         lambda: row_word(book, cases, told_facts, 1), lambda: decided(book, cases, told_facts)):
            self.assertEqual(question(), question())
        self.assertEqual((told_facts, book, cases), (facts, MIXED, CASES))


if __name__ == "__main__":
    unittest.main()
