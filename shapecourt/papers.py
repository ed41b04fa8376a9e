"""Questions which rows take a value and which don't, and papers that no value answers them."""

from shapecourt.cases import all_lines, row_at, takes
from shapecourt.grounds import Ground
from shapecourt.judging import let_by
from shapecourt.known import BARRED, SURE, no_facts


def check_question(cases, question):
    """Refuses a question with a number that is no row's."""
    wants, avoids = question
    for i in (*wants, *avoids):
        row_at(cases, i)


def answers(book, cases, question, value):
    """Whether each row wanted takes a value, and no row avoided does."""
    check_question(cases, question)
    wants, avoids = question
    return all(takes(book, cases, i, value) for i in wants) and not any(takes(book, cases, i, value) for i in avoids)


def lets(book, cases, question, paper):
    """Whether a paper that no value answers a question is let by."""
    check_question(cases, question)
    wants, avoids = question
    ground = Ground(book)
    rows = all_lines(ground, cases)

    def leaf_let(known, leaf):
        if leaf[0] == "takes":
            return leaf[1] in avoids and known.row_word(rows[leaf[1]]) == SURE
        if leaf[0] == "misses":
            return leaf[1] in wants and known.row_word(rows[leaf[1]]) == BARRED
        return False

    return let_by(no_facts(ground, cases[0]), paper, leaf_let)
