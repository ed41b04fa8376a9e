"""Terms: what answers make of the parts of a value, and whether two are surely alike."""

from shapecourt.facts import known_by
from shapecourt.kinds import NUM
from shapecourt.lines import contrary


def term_at(answer, spots):
    """The term of an answer, held names being at their spots."""
    if answer[0] == "num":
        return answer
    if answer[0] == "held":
        return ("part", spots[answer[1]])
    return ("make", answer[1], tuple([term_at(part, spots) for part in answer[2]]))


def term_of(answer, line):
    """The term of an answer by a line."""
    return term_at(answer, dict(line[1]))


def seen(known, term):
    """A term; a part at a spot with a known make as this make of its parts."""
    make = known.known_at(term[1]) if term[0] == "part" else None
    if make is None:
        return term
    parts = [("part", term[1] + ((make, i),)) for i in range(len(known.ground.fields[make]))]
    return ("make", make, tuple(parts))


def most_between(one, other):
    """The "most" that says that a number or a part is at most another one."""
    p, more = (None, one[1]) if one[0] == "num" else (one[1], 0)
    q, other_more = (None, other[1]) if other[0] == "num" else (other[1], 0)
    return ("most", p, q, other_more - more)


def is_known_most(known, one, other):
    """Whether a number or a part is told to be at most another one."""
    word, p, q, d = most_between(one, other)
    return known.bounds.is_told(p, q, d)


def are_known_equal(known, one, other):
    """Whether two terms, no makes, are told to be one number."""
    return is_known_most(known, one, other) and is_known_most(known, other, one)


def first_unlike(known, one, other):
    """The first two terms within two terms, as they are seen, that are not surely alike; None where all are."""
    pending = [(one, other)]
    while pending:
        left, right = pending.pop()
        if left == right:
            continue
        left, right = seen(known, left), seen(known, right)
        if left[0] == "make" and left[:2] == right[:2]:
            pending.extend(list(zip(left[2], right[2])))
        elif "make" in (left[0], right[0]) or not are_known_equal(known, left, right):
            return left, right
    return None


def is_number(known, term):
    """Whether a term is of `num`."""
    return term[0] == "num" or term[0] == "part" and known.standing_kind(term[1]) == NUM


def numbers_unlike(known, one, other):
    """Facts by which two terms of `num` that aren't surely alike never are."""
    if one[0] == other[0] == "num":
        return []
    # One of the two can't be told yet, so its contrary isn't at odds with the facts.
    if is_known_most(known, one, other):
        return [contrary(most_between(other, one))]
    return [contrary(most_between(one, other))]


def makes_unlike(known, one, other):
    """Facts by which two terms of a kind of the book that aren't both seen as one make never are alike."""
    if one[0] == other[0] == "make":
        return []
    if one[0] == "make":
        return makes_unlike(known, other, one)
    makes = known.makes_to_see(one[1])
    if other[0] == "make":
        return [("is", one[1], [make for make in makes if make != other[1]][0])]
    return [("is", one[1], makes[0]), ("is", other[1], makes[1])]


def facts_parting(known, one, other):
    """Facts, to be put behind, by which two terms never are alike; None where they surely are."""
    unlike = first_unlike(known, one, other)
    if unlike is None:
        return None
    left, right = unlike
    return numbers_unlike(known, left, right) if is_number(known, left) else makes_unlike(known, left, right)


def same_terms(book, kind, facts, one, other):
    """Whether two terms are surely alike behind facts of values of the kind."""
    return first_unlike(known_by(book, kind, facts), one, other) is None


def unlike_facts(book, kind, facts, one, other):
    """Facts, to be put behind facts of values of the kind, by which two terms never are alike; None where they are."""
    return facts_parting(known_by(book, kind, facts), one, other)
