"""Seeking: of each question a value that answers it, or a paper that there is none; and what cases leave."""

from shapecourt.cases import all_lines, row_at
from shapecourt.facts import value_meeting
from shapecourt.grounds import Ground
from shapecourt.growing import first_left, grown, own_tree
from shapecourt.known import OPEN, SURE, no_facts
from shapecourt.looks import check_outcomes, facts_from, look_and_behind, look_of, looks_among, multiplied
from shapecourt.papers import check_question


def looks_of(book, cases):
    """The looks of cases."""
    return list(looks_among(all_lines(Ground(book), cases)))


def outcomes(book, cases):
    """The product of the outcomes of all looks."""
    ground = Ground(book)
    return multiplied(ground, cases[0], looks_among(all_lines(ground, cases)), 0)


def aims_of(question, rows):
    """What must come of a question's rows: triples (row's number, whether it shall take the value, its lines)."""
    wants, avoids = question
    wanted = [(i, True, rows[i]) for i in sorted(set(wants))]
    avoided = [(i, False, rows[i]) for i in sorted(set(avoids))]
    return wanted + avoided


def sought(book, cases, question):
    """("value", v), v answering a question, or ("paper", paper) that there is none."""
    check_question(cases, question)
    ground = Ground(book)
    rows = all_lines(ground, cases)
    check_outcomes(ground, cases[0], looks_among(rows))
    aims = aims_of(question, rows)

    def step(known, place):
        aim, at = place
        while aim < len(aims):
            i, shall_take, lines = aims[aim]
            at, word = first_left(known, lines, at)
            if word == OPEN:
                return None, look_of(known.open_test(lines[at])), (aim, at)
            if (word == SURE) != shall_take:
                return ("misses" if shall_take else "takes", i), None, place
            aim, at = aim + 1, 0
        return ("value", value_meeting(known)), None, place

    told = grown(no_facts(ground, cases[0]), (0, 0), step)
    return told if told[0] == "value" else ("paper", told)


def covered(book, cases):
    """A value that no row takes, or a paper that there is none."""
    return sought(book, cases, ((), tuple(range(len(cases[2])))))


def comes(book, cases, i):
    """A value that row i is the first to take, or a paper that there is none."""
    row_at(cases, i)
    return sought(book, cases, ((i,), tuple(range(i))))


def meet(book, cases, i, j):
    """A value that rows i and j both take, or a paper that there is none."""
    return sought(book, cases, ((i, j), ()))


def left(book, cases):
    """Lists of facts: each value that no row takes meets just one of them, no other value any."""
    ground = Ground(book)
    kind = cases[0]
    found = []
    pending = [((), own_tree(ground, kind, all_lines(ground, cases)))]
    while pending:
        facts, tree = pending.pop()
        look, trees = look_and_behind(tree)
        if look is not None:
            pending.extend([(facts + (fact,), inner) for fact, inner in zip(facts_from(ground, kind, look), trees)])
        elif tree == ("none",):
            found.append(list(facts))
    return found
