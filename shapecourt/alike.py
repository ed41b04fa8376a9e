"""Cases alike: joint papers, and values of which two cases tell unlike things."""

from shapecourt.cases import all_lines
from shapecourt.facts import value_meeting
from shapecourt.grounds import Ground
from shapecourt.growing import first_left, grown, numbered_lines
from shapecourt.judging import let_by
from shapecourt.known import OPEN, SURE, no_facts
from shapecourt.looks import check_outcomes, look_of, looks_among
from shapecourt.terms import facts_parting, term_of


class Telling:
    """The lines of cases in order, and the term that is told by each of them."""

    def __init__(self, ground, cases):
        self.rows = all_lines(ground, cases)
        numbered = numbered_lines(self.rows)
        self.lines = [line for number, line in numbered]
        self.terms = [term_of(cases[2][i][2], line) for (i, k), line in numbered]

    def told_from(self, known, at):
        """The first line from at on that isn't barred, its word, and its term (None where all lines are)."""
        number, word = first_left(known, self.lines, at)
        return number, word, self.terms[number] if word == SURE else None


def facts_unlike(known, one, other):
    """Facts by which two terms, or None for what is told by no row, are never alike; None where they surely are."""
    if one is None or other is None:
        return None if one == other else []
    return facts_parting(known, one, other)


def joint_leaf(known, one, other):
    """The leaf where both cases are decided: same, or a value of which they tell unlike things."""
    facts = facts_unlike(known, one, other)
    if facts is None:
        return ("same",)
    for fact in facts:
        known = known.put(fact)
    return ("value", value_meeting(known))


def alike(book, one, other):
    """("paper", joint paper) that two cases are alike, or ("value", v) of which they tell unlike things."""
    ground = Ground(book)
    first, second = Telling(ground, one), Telling(ground, other)
    check_outcomes(ground, one[0], looks_among(first.rows + second.rows))

    def step(known, place):
        at, word, term = first.told_from(known, place[0])
        if word == OPEN:
            return None, look_of(known.open_test(first.lines[at])), (at, place[1])
        also_at, word, other_term = second.told_from(known, place[1])
        if word == OPEN:
            return None, look_of(known.open_test(second.lines[also_at])), (at, also_at)
        return joint_leaf(known, term, other_term), None, place

    told = grown(no_facts(ground, one[0]), (0, 0), step)
    return told if told[0] == "value" else ("paper", told)


def lets_alike(book, one, other, paper):
    """Whether a joint paper that two cases are alike is let by."""
    ground = Ground(book)
    first, second = Telling(ground, one), Telling(ground, other)

    def leaf_let(known, leaf):
        at, word, term = first.told_from(known, 0)
        also_at, other_word, other_term = second.told_from(known, 0)
        if leaf[0] != "same" or OPEN in (word, other_word):
            return False
        return facts_unlike(known, term, other_term) is None

    return let_by(no_facts(ground, one[0]), paper, leaf_let)
