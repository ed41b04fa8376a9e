"""Facts: tests told of a value, one behind the other, and what follows from them."""

from shapecourt.bounds import bounds_of
from shapecourt.cases import all_lines, row_lines
from shapecourt.grounds import Ground
from shapecourt.known import no_facts
from shapecourt.spots import put_at


def known_by(book, kind, facts):
    """What facts in order tell of values of a kind."""
    known = no_facts(Ground(book), kind)
    for test in facts:
        known = known.put(test)
    return known


def in_order(book, kind, facts):
    """Whether facts are in order."""
    known = no_facts(Ground(book), kind)
    for test in facts:
        if not known.keeps(test):
            return False
        known = known.put(test)
    return True


def stands(book, kind, facts, spot):
    """Whether a spot of the kind stands behind facts."""
    return known_by(book, kind, facts).standing_kind(spot) is not None


def known_at(book, kind, facts, spot):
    """The make known at a spot that stands; None where none is, or the spot doesn't stand."""
    return known_by(book, kind, facts).known_at(spot)


def at_odds(facts):
    """Whether facts are at odds."""
    return bounds_of(facts).odds


def reach(facts, p, q):
    """The reach from p to q by facts that are not at odds, None where there is none."""
    return bounds_of(facts).reach(p, q)


def word_of(book, kind, facts, test):
    """Whether a test is "sure", "barred" or "open" behind facts."""
    return known_by(book, kind, facts).word_of(test)


def line_word(book, kind, facts, line):
    """Whether a line is "sure", "barred" or "open" behind facts."""
    return known_by(book, kind, facts).line_word(line)


def row_word(book, cases, facts, i):
    """Whether row i is "sure", "barred" or "open" behind facts."""
    lines = row_lines(book, cases, i)
    return known_by(book, cases[0], facts).row_word(lines)


def decided(book, cases, facts):
    """(i, k) where cases are decided by line k of row i, None where no row takes what meets the facts, or "open"."""
    known = known_by(book, cases[0], facts)
    return known.decided(all_lines(known.ground, cases))


def value_meeting(known):
    """A value that meets facts that are not at odds."""
    plain = known.ground.plain
    value = plain[known.kind]
    for spot in known.makes:
        make = known.makes[spot]
        parts = tuple([plain[field] for field in known.ground.fields[make]])
        value = put_at(value, spot, (make,) + parts)
    numbers = known.bounds.numbers()
    for spot in numbers:
        value = put_at(value, spot, numbers[spot])
    return value


def met(book, kind, facts):
    """A value that meets facts that are not at odds."""
    return value_meeting(known_by(book, kind, facts))
