"""[6.1], [6.2]: questions, and papers that are let by."""

import copy
import random
import unittest

from samples import (ANY, C, HUGE, KNOT, L, LEAF, LEAFED, M, MIXED, NODE, ODDS, R, T, TIP, U, cases_of, chance_cases,
                     chance_question, chance_value, coming, look, node, row_binding, split, spots_within)
from shapecourt.errors import NoRow
from shapecourt.cases import row_lines
from shapecourt.facts import at_odds, in_order, known_at, met, row_word, stands, word_of
from shapecourt.lines import contrary
from shapecourt.papers import answers, lets
from shapecourt.shapes import is_shape
from shapecourt.spots import is_spot, kind_at

# 0 leaf, 1 node, 2 tip, 3 node below 1, 4 node from 1 on, 5 any, 6 knot (never), 7 node of a node.
CASES = cases_of(LEAFED, NODE, TIP, node(ANY, ("num", None, 0)), node(ANY, ("num", 1, None)), ANY, KNOT, node(NODE))
TAKES = [("takes", i) for i in range(8)]
MISSES = [("misses", i) for i in range(8)]


class TestAnswers(unittest.TestCase):
    VALUES = (LEAF, ("node", LEAF, 0, LEAF), ("node", LEAF, 1, LEAF), ("tip", ("case", 0, 0), 0),
              ("node", ("node", LEAF, 0, LEAF), 1, LEAF))
    TAKING = ((0, 5), (1, 3, 5), (1, 4, 5), (2, 5), (1, 4, 5, 7))

    def assert_answers(self, question, value, expected):
        self.assertIs(answers(MIXED, CASES, question, value), expected, (question, value))

    def test_none_wanted_and_avoided(self):
        for value in self.VALUES:
            self.assert_answers(((), ()), value, True)

    def test_wanted(self):
        for value, taking in zip(self.VALUES, self.TAKING):
            for i in range(8):
                for j in range(8):
                    self.assert_answers(((i,), ()), value, i in taking)
                    self.assert_answers(((i, j), ()), value, i in taking and j in taking)

    def test_avoided(self):
        for value, taking in zip(self.VALUES, self.TAKING):
            for i in range(8):
                for j in range(8):
                    self.assert_answers(((), (i,)), value, i not in taking)
                    self.assert_answers(((), (i, j)), value, i not in taking and j not in taking)

    def test_both(self):
        for value, taking in zip(self.VALUES, self.TAKING):
            for i in range(8):
                for j in range(8):
                    self.assert_answers(((i,), (j,)), value, i in taking and j not in taking)

    def test_twice_and_in_both(self):
        self.assert_answers(((0, 0, 5), (1, 1, 2)), LEAF, True)
        self.assert_answers(((0, 0), (0,)), LEAF, False)
        self.assert_answers(((0, 5, 1), (1, 3)), LEAF, False)
        self.assert_answers(((1,), (1,)), LEAF, False)

    def test_no_row(self):
        for i in (-1, -8, 8, 9, HUGE):
            for question in (((i,), ()), ((), (i,)), ((0, i), (1,)), ((0,), (1, i)), ((6, i), ()), ((5,), (5, i))):
                with self.assertRaises(NoRow):
                    answers(MIXED, CASES, question, LEAF)
                with self.assertRaises(NoRow):
                    lets(MIXED, CASES, question, ODDS)
        for question in (((0,), ()), ((), (0,))):
            with self.assertRaises(NoRow):
                answers(MIXED, cases_of(), question, LEAF)
            with self.assertRaises(NoRow):
                lets(MIXED, cases_of(), question, ODDS)

    def test_by_chance(self):
        chance = random.Random(21)
        for number in range(200):
            cases = chance_cases(chance, MIXED, is_shape)
            count = len(cases[2])
            for turn in range(6):
                value = chance_value(chance, MIXED, cases[0], 3)
                taking = [i for i, row in enumerate(cases[2]) if row_binding(row, value) is not None]
                question = chance_question(chance, count)
                expected = set(question[0]) <= set(taking) and not set(question[1]) & set(taking)
                self.assertIs(answers(MIXED, cases, question, value), expected)


class PaperTest(unittest.TestCase):
    def assert_lets(self, question, paper, cases=CASES):
        self.assertIs(lets(MIXED, cases, question, paper), True, paper)

    def assert_not(self, question, paper, cases=CASES):
        self.assertIs(lets(MIXED, cases, question, paper), False, paper)


class TestLeaves(PaperTest):
    def test_takes(self):
        self.assert_lets(((), (5,)), TAKES[5])
        self.assert_lets(((1,), (0, 5, 5)), TAKES[5])
        self.assert_lets(((5,), (5,)), TAKES[5])
        self.assert_not(((), (0,)), TAKES[0])
        self.assert_not(((), (6,)), TAKES[6])
        self.assert_not(((5,), ()), TAKES[5])
        self.assert_not(((5,), (0,)), TAKES[5])
        self.assert_not(((), ()), TAKES[5])

    def test_misses(self):
        self.assert_lets(((6,), ()), MISSES[6])
        self.assert_lets(((5, 6), (6,)), MISSES[6])
        self.assert_not(((), (6,)), MISSES[6])
        self.assert_not(((0,), ()), MISSES[0])
        self.assert_not(((5,), ()), MISSES[5])
        self.assert_not(((5,), (6,)), MISSES[6])
        self.assert_not(((6,), (5,)), MISSES[5])

    def test_odds(self):
        for question in (((), ()), ((5,), (5,)), ((6,), (5,))):
            self.assert_not(question, ODDS)

    def test_numbers_that_are_no_rows(self):
        for i in (-1, -3, -8, 8, 9, HUGE, -HUGE):
            for word in ("takes", "misses"):
                for question in (((5, 6), (5, 6)), ((), ()), (tuple(range(8)), tuple(range(8)))):
                    self.assert_not(question, (word, i))
                    self.assert_not(question, look((), TAKES[5], (word, i), TAKES[5]))

    def test_no_rows_at_all(self):
        for paper in (ODDS, TAKES[0], MISSES[0], look((), ODDS, ODDS, ODDS)):
            self.assert_not(((), ()), paper, cases_of())

    def test_facts_count(self):
        self.assert_lets(((1,), (0, 2)), look((), TAKES[0], look((L,), MISSES[1], MISSES[1], MISSES[1]), TAKES[2]),
                         cases_of(LEAFED, KNOT, TIP))
        self.assert_lets(((), (0, 1, 2)), look((), TAKES[0], TAKES[1], TAKES[2]))
        self.assert_not(((), (0, 1, 2)), look((), TAKES[1], TAKES[0], TAKES[2]))
        self.assert_lets(((0, 1), ()), look((), MISSES[1], MISSES[0], MISSES[0]))
        self.assert_lets(((0, 1), ()), look((), MISSES[1], MISSES[0], MISSES[1]))
        self.assert_not(((0, 1), ()), look((), MISSES[0], MISSES[0], MISSES[0]))


class TestLooks(PaperTest):
    def test_one_paper_for_each_make(self):
        question = ((), (5,))
        self.assert_lets(question, look((), *[TAKES[5]] * 3))
        for count in (0, 1, 2, 4, 5):
            self.assert_not(question, look((), *[TAKES[5]] * count))

    def test_each_paper_has_to_be_let_by(self):
        for at in range(3):
            papers = [TAKES[5]] * 3
            papers[at] = TAKES[6]
            self.assert_not(((), (5, 6)), look((), *papers))

    def test_where_a_make_is_known(self):
        question = ((), (5,))
        inner = look((), *[TAKES[5]] * 3)
        self.assert_not(question, look((), inner, TAKES[5], TAKES[5]))
        self.assert_not(question, look((), TAKES[5], inner, TAKES[5]))
        deeper = look((L,), *[TAKES[5]] * 3)
        self.assert_lets(question, look((), TAKES[5], look((R,), deeper, deeper, deeper), TAKES[5]))
        self.assert_not(question, look((), TAKES[5], look((L,), deeper, deeper, deeper), TAKES[5]))

    def test_a_spot_that_does_not_stand(self):
        question = ((), (5,))
        for spot in ((L,), (R,), (L, L), (T,)):
            for count in (1, 2, 3):
                self.assert_not(question, look(spot, *[TAKES[5]] * count))
        inner = look((L,), *[TAKES[5]] * 3)
        self.assert_not(question, look((), inner, TAKES[5], TAKES[5]))
        self.assert_lets(question, look((), TAKES[5], inner, TAKES[5]))
        self.assert_not(question, look((), TAKES[5], TAKES[5], inner))

    def test_where_only_one_make_comes(self):
        question = ((), (0,))
        for count in (0, 1, 2):
            self.assert_not(question, look((), *[TAKES[0]] * count), cases_of(ANY, first="box"))
            self.assert_not(question, look((), *[TAKES[0]] * count), cases_of(ANY, first="pair"))
            self.assert_not(question, look((("both", 1),), *[TAKES[0]] * count), cases_of(ANY, first="pair"))
            self.assert_not(((), (5,)), look((), TAKES[5], TAKES[5], look((T,), *[TAKES[5]] * count)))
        self.assert_lets(question, look((("both", 2),), *[TAKES[0]] * 3), cases_of(ANY, first="pair"))

    def test_at_numbers_and_at_no_spots(self):
        for spot in ((M,), (("node", 3),), (("node", -1),), (("stem", 0),), (("knot", 0),), (M, M), (("red", 0),),
                     (("", HUGE),)):
            for count in (0, 1, 2, 3):
                inner = look(spot, *[TAKES[5]] * count)
                self.assert_not(((), (5,)), look((), TAKES[5], inner, TAKES[5]))
                self.assert_not(((), (5,)), inner)
        for count in (0, 1, 2):
            self.assert_not(((), (0,)), look((), *[TAKES[0]] * count), cases_of(ANY, first="num"))


class TestSplits(PaperTest):
    SMALL = cases_of(("num", None, 4), ("num", 5, None), first="num")

    def test_both_papers(self):
        self.assert_lets(((), (0, 1)), split((), None, 4, TAKES[0], TAKES[1]), self.SMALL)
        self.assert_lets(((0, 1), ()), split((), None, 4, MISSES[1], MISSES[0]), self.SMALL)
        self.assert_lets(((), (0, 1)), split(None, (), -5, TAKES[1], TAKES[0]), self.SMALL)
        self.assert_not(((), (0, 1)), split((), None, 4, TAKES[1], TAKES[0]), self.SMALL)
        self.assert_not(((), (0, 1)), split(None, (), -5, TAKES[0], TAKES[1]), self.SMALL)
        self.assert_not(((), (0, 1)), split((), None, 4, TAKES[0], TAKES[0]), self.SMALL)
        self.assert_not(((), (0, 1)), split((), None, 4, TAKES[1], TAKES[1]), self.SMALL)

    def test_the_edge(self):
        for d, right in ((3, False), (4, True), (5, False)):
            paper = split((), None, d, TAKES[0], TAKES[1])
            self.assertIs(lets(MIXED, self.SMALL, ((), (0, 1)), paper), right)
        self.assert_lets(((), (0, 1)), split((), None, 3, TAKES[0], split((), None, 4, TAKES[0], TAKES[1])), self.SMALL)

    def test_papers_that_do_not_keep_facts_in_order(self):
        yes = TAKES[5]
        for p, q in ((None, None), ((M,), None), (None, (M,)), ((), None), (None, ()), ((), ()), ((M,), (M,)),
                     ((U,), None), ((("node", 7),), None), ((("stem", 0),), (("stem", 1),))):
            for d in (0, HUGE, -HUGE):
                self.assert_not(((), (5,)), split(p, q, d, yes, yes))
        for p, q in ((None, None), ((M,), (M,)), ((L,), None), (None, (R,)), ((M,), (L, M)), ((L, M), (M,)), ((M,), (U,)),
                     ((("node", 3),), None), ((("node", -2),), (M,)), ((M, M), None)):
            for d in (0, HUGE, -HUGE):
                self.assert_not(((), (5,)), look((), yes, split(p, q, d, yes, yes), yes))
        for p, q in (((M,), None), (None, (M,))):
            self.assert_lets(((), (5,)), look((), yes, split(p, q, 3, yes, yes), yes))
            self.assert_not(((), (5,)), look((), split(p, q, 3, yes, yes), yes, yes))
        self.assert_not(((), (0,)), split((), (), 0, TAKES[0], TAKES[0]), cases_of(ANY, first="num"))

    def test_two_spots(self):
        shape = node(node(ANY, ("held", "x", ANY)), ("held", "y", ANY))
        rows = ((shape, (("x", "<", "y"),), ("num", 0)), (shape, (("x", ">=", "y"),), ("num", 0)), (node(NODE), (), ("num", 1)))
        cases = ("tree", "num", rows)
        good = split((L, M), (M,), -1, TAKES[0], TAKES[1])
        for paper, right in ((good, True), (split((M,), (L, M), 0, TAKES[1], TAKES[0]), True),
                             (split((L, M), (M,), 0, TAKES[0], TAKES[1]), False),
                             (split((L, M), (M,), -2, TAKES[0], TAKES[1]), False),
                             (split((M,), (L, M), -1, TAKES[0], TAKES[1]), False)):
            within = look((), MISSES[2], look((L,), MISSES[2], paper, MISSES[2]), MISSES[2])
            self.assertIs(lets(MIXED, cases, ((2,), (0, 1)), within), right)

    def test_anything_behind_facts_at_odds(self):
        question = ((), (0, 1))
        for rest in (ODDS, TAKES[0], ("takes", 99), ("misses", -1), look((("stem", 9),)), split(None, None, 0, ODDS, ODDS),
                     look((), ODDS, TAKES[0])):
            self.assert_lets(question, split((), None, 4, split((), None, 9, TAKES[0], rest), TAKES[1]), self.SMALL)
            self.assert_lets(question, split((), None, 4, TAKES[0], split(None, (), -5, TAKES[1], rest)), self.SMALL)
            self.assert_lets(question, split((), None, 4, split(None, (), -5, rest, TAKES[0]), TAKES[1]), self.SMALL)
        for rest in (ODDS, ("takes", 99), ("misses", -1)):
            self.assert_not(question, split((), None, 4, split((), None, 3, TAKES[0], rest), TAKES[1]), self.SMALL)

    def test_odds_of_several_facts(self):
        cases = cases_of(ANY, first="box")
        x, y = (C,), (("case", 1),)
        leaf = TAKES[0]
        for d, right in ((-8, True), (-7, False)):
            inner = split(y, None, 3, split(None, x, d, ODDS, leaf), leaf)
            self.assertIs(lets(MIXED, cases, ((), (0,)), split(x, y, 4, inner, leaf)), right)

    def test_huge_numbers(self):
        cases = cases_of(("num", None, HUGE), ("num", HUGE + 1, None), first="num")
        self.assert_lets(((), (0, 1)), split((), None, HUGE, TAKES[0], TAKES[1]), cases)
        self.assert_not(((), (0, 1)), split((), None, HUGE - 1, TAKES[0], TAKES[1]), cases)

    def test_deep_papers(self):
        for deep in (40, 300, 2000):
            cases = cases_of(("num", None, deep - 3), ("num", deep - 2, None), first="num")
            good, bad = TAKES[1], TAKES[0]
            for number in reversed(range(deep - 2)):
                good, bad = split((), None, number, TAKES[0], good), split((), None, number, TAKES[0], bad)
            self.assert_lets(((), (0, 1)), good, cases)
            self.assert_not(((), (0, 1)), bad, cases)

    def test_deep_looks(self):
        good, bad = TAKES[5], TAKES[6]
        for length in reversed(range(39)):
            good = look((L,) * length, TAKES[5], good, TAKES[5])
            bad = look((L,) * length, TAKES[5], bad, TAKES[5])
        self.assert_lets(((), (5, 6)), good)
        self.assert_not(((), (5, 6)), bad)


def proof(cases, question, facts):
    """A paper that no value answers the question from facts on; None where one does."""
    if at_odds(facts):
        return ODDS
    for word, told, numbers in (("takes", "sure", question[1]), ("misses", "barred", question[0])):
        for i in numbers:
            if row_word(MIXED, cases, facts, i) == told:
                return (word, i)
    for i in question[0] + question[1]:
        for tests, held in row_lines(MIXED, cases, i):
            for test in tests:
                if word_of(MIXED, cases[0], facts, test) == "open" and standing(cases[0], facts, test):
                    return proof_by(cases, question, facts, test)
    return None


def standing(kind, facts, test):
    spots = [test[1]] if test[0] == "is" else [spot for spot in test[1:3] if spot is not None]
    return all(stands(MIXED, kind, facts, spot) for spot in spots)


def proof_by(cases, question, facts, test):
    if test[0] == "is":
        makes = [make for make, fields in coming(MIXED, kind_at(MIXED, cases[0], test[1]))]
        papers = tuple(proof(cases, question, facts + [("is", test[1], make)]) for make in makes)
        return None if None in papers else ("look", test[1], papers)
    papers = tuple(proof(cases, question, facts + [fact]) for fact in (test, contrary(test)))
    return None if None in papers else ("split",) + test[1:] + papers


def expected_lets(cases, question, facts, paper):
    """Whether a paper is let by, by the words of the document."""
    kind = cases[0]
    if at_odds(facts):
        return True
    if paper[0] == "look":
        spot = paper[1]
        if not is_spot(MIXED, kind, spot) or not stands(MIXED, kind, facts, spot):
            return False
        makes = [make for make, fields in coming(MIXED, kind_at(MIXED, kind, spot))]
        if known_at(MIXED, kind, facts, spot) is not None or len(makes) < 2 or len(makes) != len(paper[2]):
            return False
        return all(expected_lets(cases, question, facts + [("is", spot, make)], inner)
                   for make, inner in zip(makes, paper[2]))
    if paper[0] == "split":
        test = ("most",) + paper[1:4]
        return in_order(MIXED, kind, facts + [test]) and expected_lets(cases, question, facts + [test], paper[4]) \
            and expected_lets(cases, question, facts + [contrary(test)], paper[5])
    if paper[0] == "takes":
        return paper[1] in question[1] and row_word(MIXED, cases, facts, paper[1]) == "sure"
    return paper[0] == "misses" and paper[1] in question[0] and row_word(MIXED, cases, facts, paper[1]) == "barred"


def spoilt(chance, kind, paper):
    """A paper with one thing changed by chance somewhere."""
    if paper[0] == "look" and chance.randint(0, 3):
        at = chance.randrange(len(paper[2]))
        return ("look", paper[1], paper[2][:at] + (spoilt(chance, kind, paper[2][at]),) + paper[2][at + 1:])
    if paper[0] == "split" and chance.randint(0, 3):
        at = chance.choice((4, 5))
        return paper[:at] + (spoilt(chance, kind, paper[at]),) + paper[at + 1:]
    spots = [spot for spot, end in spots_within(MIXED, kind, 2)]
    if paper[0] == "look":
        return chance.choice((("look", chance.choice(spots), paper[2]), ("look", paper[1], paper[2][1:]),
                              ("look", paper[1], paper[2][::-1]), paper[2][0]))
    if paper[0] == "split":
        p, q, d, yes, no = paper[1:]
        return chance.choice((split(p, q, d + 1, yes, no), split(q, p, d, yes, no), split(p, q, d, no, yes),
                              split(chance.choice(spots), q, d, yes, no), split(None, None, d, yes, no), no))
    return (chance.choice(("takes", "misses")), chance.randint(-1, 4))


class TestByChance(unittest.TestCase):
    def test_a_value_or_a_paper(self):
        chance = random.Random(22)
        seen = {"paper": 0, "value": 0, True: 0, False: 0}
        while min(seen.values()) < 60:
            cases = chance_cases(chance, MIXED, is_shape, 3)
            question = chance_question(chance, len(cases[2]))
            values = [chance_value(chance, MIXED, cases[0], 3) for turn in range(15)]
            answering = [value for value in values if answers(MIXED, cases, question, value)]
            paper = proof(cases, question, [])
            seen["value" if paper is None else "paper"] += 1
            if paper is None:
                self.assertIs(lets(MIXED, cases, question, ODDS), False)
                continue
            self.assertIs(lets(MIXED, cases, question, paper), True)
            self.assertEqual(answering, [])
            for turn in range(4):
                other = spoilt(chance, cases[0], paper)
                let = lets(MIXED, cases, question, other)
                self.assertIs(let, expected_lets(cases, question, [], other))
                seen[let] += 1

    def test_no_paper_is_let_by_where_a_value_answers(self):
        chance = random.Random(23)
        count = 0
        while count < 150:
            cases = chance_cases(chance, MIXED, is_shape, 3)
            question = chance_question(chance, len(cases[2]))
            values = [met(MIXED, cases[0], [])] + [chance_value(chance, MIXED, cases[0], 3) for turn in range(10)]
            if any(answers(MIXED, cases, question, value) for value in values):
                papers = [proof(cases, chance_question(chance, len(cases[2])), []) for turn in range(3)]
                for paper in papers:
                    if paper is not None:
                        count += 1
                        self.assertIs(lets(MIXED, cases, question, paper), False)


class TestQuestions(unittest.TestCase):
    def test_nothing_is_changed(self):
        paper = look((), TAKES[0], split((M,), None, 0, TAKES[3], TAKES[4]), TAKES[2])
        question = ((), (0, 2, 3, 4))
        told = copy.deepcopy((MIXED, CASES, question, paper))
        for turn in range(2):
            self.assertIs(lets(*told), True)
            self.assertIs(answers(told[0], told[1], told[2], LEAF), False)
        self.assertEqual(told, (MIXED, CASES, question, paper))


if __name__ == "__main__":
    unittest.main()
