"""[8.1], [8.2]: terms, whether they are surely alike, and facts by which they never are."""

import copy
import random
import unittest

from samples import ANY, C, HUGE, L, M, MIXED, R, T, TREES, U, chance_answer, chance_facts, node, spots_within
from shapecourt.cases import row_lines
from shapecourt.facts import at_odds, in_order, known_at, met, reach, stands
from shapecourt.lines import holds
from shapecourt.spots import part_at
from shapecourt.terms import same_terms, term_of, unlike_facts

NODED = ("is", (), "node")
LEAVES = ("make", "leaf", ())


def part(*spot):
    return ("part", spot)


def num(number):
    return ("num", number)


def made(name, *terms):
    return ("make", name, terms)


def worth(term, value):
    """The value that a term makes of a value."""
    if term[0] == "num":
        return term[1]
    if term[0] == "part":
        return part_at(value, term[1])
    return (term[1],) + tuple(worth(inner, value) for inner in term[2])


def surely_alike(kind, facts, one, other):
    """Whether two terms are surely alike, by the words of the document."""
    one, other = [seen_by_facts(kind, facts, term) for term in (one, other)]
    if one[0] == other[0] == "make":
        return one[1] == other[1] and all(surely_alike(kind, facts, *pair) for pair in zip(one[2], other[2]))
    if "make" in (one[0], other[0]):
        return False
    if one[0] == other[0] == "num":
        return one[1] == other[1]
    if one[0] == other[0]:
        return one[1] == other[1] or near(facts, one[1], other[1], 0) and near(facts, other[1], one[1], 0)
    number, spot = (one[1], other[1]) if one[0] == "num" else (other[1], one[1])
    return near(facts, spot, None, number) and near(facts, None, spot, -number)


def near(facts, p, q, d):
    least = reach(facts, p, q)
    return least is not None and least <= d


def seen_by_facts(kind, facts, term):
    make = known_at(MIXED, kind, facts, term[1]) if term[0] == "part" else None
    if make is None:
        return term
    fields = [told for name, makes in MIXED for name, told in makes if name == make][0]
    return made(make, *[part(*term[1], (make, i)) for i in range(len(fields))])


class TestTermOf(unittest.TestCase):
    LINE = ((("is", (), "node"),), (("x", (M,)), ("t", ()), ("y", (R, M))))

    def test_the_forms(self):
        for answer, term in ((num(5), num(5)), (num(-HUGE), num(-HUGE)), (("held", "x"), part(M)), (("held", "t"), part()),
                             (LEAVES, LEAVES), (made("node", ("held", "t"), ("held", "y"), LEAVES),
                                                made("node", part(), part(R, M), LEAVES)),
                             (made("tip", made("case", num(1), ("held", "x")), num(0)),
                              made("tip", made("case", num(1), part(M)), num(0)))):
            self.assertEqual(term_of(answer, self.LINE), term)
            self.assertIsInstance(term_of(answer, self.LINE), tuple)

    def test_held_at_unlike_spots_of_two_lines(self):
        inner = ("held", "x", ANY)
        shape = ("either", (node(ANY, inner), ("make", "tip", (ANY, inner)), node(node(ANY, inner))))
        cases = ("tree", "num", ((shape, (), ("held", "x")),))
        lines = row_lines(MIXED, cases, 0)
        self.assertEqual([term_of(("held", "x"), line) for line in lines], [part(M), part(U), part(L, M)])

    def test_deep_answers(self):
        answer, term = ("held", "t"), part()
        for turn in range(40):
            answer, term = made("node", answer, num(turn), LEAVES), made("node", term, num(turn), LEAVES)
        self.assertEqual(term_of(answer, self.LINE), term)


class TermsTest(unittest.TestCase):
    def assert_alike(self, facts, one, other, kind="tree"):
        for pair in ((one, other), (other, one)):
            self.assertIs(same_terms(MIXED, kind, facts, *pair), True, (facts, pair))
            self.assertIsNone(unlike_facts(MIXED, kind, facts, *pair))

    def assert_unlike(self, facts, one, other, kind="tree"):
        for pair in ((one, other), (other, one)):
            self.assertIs(same_terms(MIXED, kind, facts, *pair), False, (facts, pair))
            self.assert_parting(facts, *pair, kind)

    def assert_parting(self, facts, one, other, kind):
        more = unlike_facts(MIXED, kind, facts, one, other)
        self.assertIsInstance(more, list)
        both = list(facts) + more
        self.assertTrue(in_order(MIXED, kind, both), both)
        self.assertFalse(at_odds(both))
        value = met(MIXED, kind, both)
        self.assertNotEqual(worth(one, value), worth(other, value))
        return both


class TestAlike(TermsTest):
    def test_numbers(self):
        self.assert_alike([], num(3), num(3))
        self.assert_alike([], num(HUGE), num(HUGE))
        for number in (2, 4, -3, HUGE):
            self.assert_unlike([], num(3), num(number))
            self.assertEqual(unlike_facts(MIXED, "tree", [], num(3), num(number)), [])

    def test_one_spot(self):
        self.assert_alike([], part(), part())
        self.assert_alike([], part(), part(), "num")
        self.assert_alike([NODED], part(), part())
        self.assert_alike([NODED], part(M), part(M))
        self.assert_alike([NODED], part(L), part(L))
        self.assert_alike([], part(), part(), "pair")

    def test_two_spots_of_a_kind(self):
        self.assert_unlike([NODED], part(L), part(R))
        self.assert_unlike([NODED, ("is", (L,), "leaf")], part(L), part(R))
        self.assert_unlike([NODED, ("is", (R,), "tip")], part(L), part(R))
        self.assert_unlike([NODED, ("is", (L,), "leaf"), ("is", (R,), "tip")], part(L), part(R))
        self.assert_alike([NODED, ("is", (L,), "leaf"), ("is", (R,), "leaf")], part(L), part(R))
        self.assert_unlike([NODED, ("is", (L,), "node"), ("is", (R,), "node")], part(L), part(R))

    def test_a_part_and_one_within_it(self):
        self.assert_unlike([NODED], part(), part(L))
        self.assert_unlike([NODED, ("is", (L,), "node")], part(), part(L))
        self.assert_unlike([NODED, ("is", (L,), "leaf")], part(), part(L))
        self.assert_unlike([NODED, ("is", (L,), "node"), ("is", (L, L), "node")], part(L), part())

    def test_numbers_tied_by_reach(self):
        for one, other in (((M,), (L, M)), ((L, M), (M,))):
            facts = [NODED, ("is", (L,), "node")]
            below, above = ("most", one, other, 0), ("most", other, one, 0)
            self.assert_unlike(facts, part(*one), part(*other))
            self.assert_unlike(facts + [below], part(*one), part(*other))
            self.assert_unlike(facts + [above], part(*one), part(*other))
            self.assert_alike(facts + [below, above], part(*one), part(*other))
            self.assert_unlike(facts + [below, ("most", other, one, 1)], part(*one), part(*other))
            self.assert_unlike(facts + [("most", one, other, -1)], part(*one), part(*other))
            by_none = [("most", one, None, 7), ("most", None, one, -7), ("most", other, None, 7), ("most", None, other, -7)]
            self.assert_alike(facts + by_none, part(*one), part(*other))
            for at in range(4):
                self.assert_unlike(facts + by_none[:at] + by_none[at + 1:], part(*one), part(*other))

    def test_a_number_and_a_part(self):
        for number in (0, 7, -7, HUGE, -HUGE):
            below, above = ("most", (M,), None, number), ("most", None, (M,), -number)
            self.assert_unlike([NODED], num(number), part(M))
            self.assert_unlike([NODED, below], num(number), part(M))
            self.assert_unlike([NODED, above], num(number), part(M))
            self.assert_alike([NODED, below, above], num(number), part(M))
            for beside in (-1, 1):
                self.assert_unlike([NODED, below, above], num(number + beside), part(M))
            self.assert_unlike([NODED, ("most", (M,), None, number - 1)], num(number), part(M))
            self.assert_unlike([NODED, ("most", None, (M,), -number - 1)], num(number), part(M))
            self.assert_unlike([NODED, ("most", (M,), None, number + 1), above], num(number), part(M))
            self.assert_unlike([NODED, below, ("most", None, (M,), 1 - number)], num(number), part(M))

    def test_a_number_of_num_itself(self):
        self.assert_unlike([], num(4), part(), "num")
        self.assert_alike([("most", (), None, 4), ("most", None, (), -4)], num(4), part(), "num")

    def test_makes(self):
        tips = [made("tip", made("case", num(1), num(2)), num(number)) for number in (3, 4)]
        self.assert_alike([], LEAVES, LEAVES)
        self.assert_alike([], tips[0], tips[0])
        self.assert_unlike([], tips[0], tips[1])
        self.assert_unlike([], tips[0], LEAVES)
        self.assertEqual(unlike_facts(MIXED, "tree", [], tips[0], LEAVES), [])
        self.assertEqual(unlike_facts(MIXED, "tree", [], tips[0], tips[1]), [])
        self.assert_alike([], made("node", part(), num(0), part()), made("node", part(), num(0), part()))
        self.assert_unlike([], made("node", part(), num(0), LEAVES), made("node", part(), num(0), part()))

    def test_a_make_and_a_part(self):
        whole = made("node", part(L), part(M), part(R))
        self.assert_alike([NODED], whole, part())
        self.assert_unlike([NODED], made("node", part(R), part(M), part(L)), part())
        self.assert_unlike([NODED], made("node", part(L), num(0), part(R)), part())
        self.assert_unlike([NODED], made("node", part(L), part(M), LEAVES), part())
        self.assert_unlike([NODED], LEAVES, part())
        self.assert_alike([("is", (), "leaf")], LEAVES, part())
        self.assert_unlike([], LEAVES, part())
        self.assert_unlike([], made("tip", made("case", num(0), num(0)), num(0)), part())
        self.assert_alike([NODED, ("is", (L,), "leaf"), ("most", (M,), None, 3), ("most", None, (M,), -3)],
                          made("node", LEAVES, num(3), part(R)), part())

    def test_the_only_make_that_comes_is_known(self):
        box = made("case", part(C), part(("case", 1)))
        self.assert_alike([], box, part(), "box")
        self.assert_unlike([], made("case", part(C), part(C)), part(), "box")
        self.assert_unlike([("is", (), "tip")], part(T), made("case", num(0), num(0)))
        facts = [("is", (), "tip"), ("most", (T, C), None, 0), ("most", None, (T, C), 0),
                 ("most", (T, ("case", 1)), (T, C), 0), ("most", (T, C), (T, ("case", 1)), 0)]
        self.assert_alike(facts, part(T), made("case", num(0), num(0)))
        self.assert_unlike(facts[:4], part(T), made("case", num(0), num(0)))
        pair = made("both", part(("both", 0)), part(("both", 1)), part(("both", 2)), part(("both", 3)))
        self.assert_alike([], pair, part(), "pair")
        self.assert_unlike([], pair[:2] + (pair[2][:2] + (made("red"),) + pair[2][3:],), part(), "pair")

    def test_seen_through_known_makes_on_both_sides(self):
        facts = [NODED, ("is", (L,), "tip"), ("is", (R,), "tip")]
        ties = [("most", (L,) + last, (R,) + last, 0) for last in ((T, C), (T, ("case", 1)), (U,))]
        ties += [("most", (R,) + last, (L,) + last, 0) for last in ((T, C), (T, ("case", 1)), (U,))]
        self.assert_alike(facts + ties, part(L), part(R))
        for at in range(6):
            self.assert_unlike(facts + ties[:at] + ties[at + 1:], part(L), part(R))

    def test_where_two_makes_come(self):
        for facts, one, other in (([NODED], part(L), part(R)), ([NODED], part(R), LEAVES), ([NODED], part(L), part()),
                                  ([], part(), LEAVES), ([], part(), made("node", LEAVES, num(0), LEAVES))):
            for pair in ((one, other), (other, one)):
                both = facts + unlike_facts(TREES, "tree", facts, *pair)
                self.assertTrue(in_order(TREES, "tree", both))
                value = met(TREES, "tree", both)
                self.assertNotEqual(worth(one, value), worth(other, value))

    def test_facts_may_be_a_tuple(self):
        self.assertIs(same_terms(MIXED, "tree", (NODED,), part(), made("node", part(L), part(M), part(R))), True)
        self.assertIsNone(unlike_facts(MIXED, "tree", (NODED,), part(L), part(L)))

    def test_deep_facts(self):
        facts = [("is", (L,) * length, "node") for length in range(80)]
        self.assert_unlike(facts, part(L), part())
        self.assert_unlike(facts, part(L, L), part(L))
        self.assert_unlike(facts, part(*(L,) * 40), part())

    def test_the_list_is_the_askers_own(self):
        facts = [NODED]
        told = copy.deepcopy(facts)
        first = unlike_facts(MIXED, "tree", facts, part(L), part(R))
        second = unlike_facts(MIXED, "tree", facts, part(L), part(R))
        self.assertEqual(first, second)
        first.append("more")
        self.assertNotEqual(first, second)
        self.assertEqual(facts, told)


class TestByChance(TermsTest):
    def terms_of(self, chance, kind, facts, end):
        pairs = [(spot, at) for spot, at in spots_within(MIXED, kind, 2) if stands(MIXED, kind, facts, spot)]
        answer = chance_answer(chance, MIXED, end, pairs, 2)
        return self.with_parts(answer)

    def with_parts(self, answer):
        if answer[0] == "held":
            return ("part", answer[1])
        if answer[0] == "num":
            return answer
        return made(answer[1], *[self.with_parts(inner) for inner in answer[2]])

    def changed(self, chance, kind, facts, term):
        """The same term with what is known of its parts seen or not."""
        if term[0] == "part" and chance.randint(0, 1):
            return seen_by_facts(kind, facts, term)
        if term[0] == "make":
            return made(term[1], *[self.changed(chance, kind, facts, inner) for inner in term[2]])
        return term

    def test_the_words_of_the_document(self):
        chance = random.Random(41)
        seen = {True: 0, False: 0}
        while min(seen.values()) < 120:
            kind = chance.choice(("tree", "pair", "box", "num"))
            facts = chance_facts(chance, MIXED, kind, in_order)
            if at_odds(facts):
                continue
            end = chance.choice(("tree", "num", "box"))
            one = self.terms_of(chance, kind, facts, end)
            other = chance.choice((self.terms_of(chance, kind, facts, end), self.changed(chance, kind, facts, one)))
            told = same_terms(MIXED, kind, facts, one, other)
            self.assertIs(told, surely_alike(kind, facts, one, other))
            seen[told] += 1
            if told:
                self.assertIsNone(unlike_facts(MIXED, kind, facts, one, other))
                value = met(MIXED, kind, facts)
                self.assertEqual(worth(one, value), worth(other, value))
            else:
                both = self.assert_parting(facts, one, other, kind)
                self.assert_never_alike(chance, kind, both, one, other)

    def assert_never_alike(self, chance, kind, facts, one, other):
        for turn in range(3):
            more = chance_facts(chance, MIXED, kind, lambda book, at, told: in_order(book, at, facts + told), 3)
            if not at_odds(facts + more):
                value = met(MIXED, kind, facts + more)
                self.assertTrue(all(holds(value, fact) for fact in facts))
                self.assertNotEqual(worth(one, value), worth(other, value))


if __name__ == "__main__":
    unittest.main()
