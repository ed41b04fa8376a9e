"""How papers and trees grow: look by look, until each way comes to a leaf."""

from shapecourt.known import BARRED, OPEN, SURE, no_facts
from shapecourt.looks import check_outcomes, facts_from, looks_among, own_look


def first_left(known, lines, at):
    """The number, from at on, of the first line that isn't barred, and its word; barred where all are."""
    for number in range(at, len(lines)):
        word = known.line_word(lines[number])
        if word != BARRED:
            return number, word
    return len(lines), BARRED


def asked(look, papers):
    """The paper of a look, with the papers of its outcomes."""
    return look + (tuple(papers),) if look[0] == "look" else look + tuple(papers)


def grown(known, place, step):
    """A paper from facts on; or ("value", v) alone, where one of its leaves is that.

    step(known, place) tells a triple (leaf or None, look, place): the look to be asked where there is no leaf yet,
    and the place from which to go on behind it.
    """
    leaf, look, further = step(known, place)
    if leaf is not None:
        return leaf
    papers = []
    for fact in facts_from(known.ground, known.kind, look):
        paper = grown(known.put(fact), further, step)
        if paper[0] == "value":
            return paper
        papers.append(paper)
    return asked(look, papers)


def numbered_lines(rows):
    """The lines of all rows in order, each as a pair: (row's number, line's number), and the line."""
    return [((i, k), line) for i, lines in enumerate(rows) for k, line in enumerate(lines)]


def own_tree(ground, kind, rows):
    """An own tree of cases of values of a kind, told by the lines of their rows."""
    looks = looks_among(rows)
    check_outcomes(ground, kind, looks)
    numbers = [number for number, line in numbered_lines(rows)]
    lines = [line for number, line in numbered_lines(rows)]

    def step(known, place):
        at, word = first_left(known, lines, place)
        if word == OPEN:
            return None, own_look(looks, known.open_test(lines[at])), at
        leaf = ("row",) + numbers[at] if word == SURE else ("none",)
        return leaf, None, at

    return grown(no_facts(ground, kind), 0, step)
