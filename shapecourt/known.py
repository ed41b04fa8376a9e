"""What facts in order tell, kept so that one more fact is quickly put behind them."""

from shapecourt.bounds import Bounds
from shapecourt.kinds import NUM
from shapecourt.spots import kind_reached

SURE = "sure"
BARRED = "barred"
OPEN = "open"


def whole_word(words):
    """The word of all of some tests at once: barred by one, sure by all."""
    if BARRED in words:
        return BARRED
    return OPEN if OPEN in words else SURE


class Known:
    """Facts in order of values of a kind: the makes that they tell by spots, the bounds of numbers."""

    def __init__(self, ground, kind, makes, bounds):
        self.ground = ground
        self.kind = kind
        self.makes = makes
        self.bounds = bounds
        # The words told so far: rows ask for the same tests again and again.
        self.words = {}

    def way_word(self, spot):
        """Of a spot of the kind: sure where it stands, barred where another make is known on the way, else open."""
        kind = self.kind
        for length, (make, i) in enumerate(spot):
            known = self.makes.get(spot[:length], self.ground.sole(kind))
            if known != make:
                return OPEN if known is None else BARRED
            kind = self.ground.fields[make][i]
        return SURE

    def standing_kind(self, spot):
        """The kind at a spot; None where it is no spot of the kind, or doesn't stand."""
        kind = kind_reached(self.ground, self.kind, spot)
        if kind is None or self.way_word(spot) != SURE:
            return None
        return kind

    def known_at(self, spot):
        """The make known at a spot that stands; None where none is, or the spot doesn't stand."""
        kind = self.standing_kind(spot)
        return None if kind is None else self.makes.get(spot, self.ground.sole(kind))

    def makes_to_see(self, spot):
        """The makes among which a look at a spot tells; none where it can't be looked at, or one is known."""
        kind = self.standing_kind(spot)
        if kind is None or self.known_at(spot) is not None:
            return ()
        return self.ground.coming[kind]

    def keeps(self, test):
        """Whether a test, put behind the facts, keeps them in order."""
        if test[0] == "is":
            return test[2] in self.makes_to_see(test[1])
        p, q = test[1], test[2]
        return p != q and all(spot is None or self.standing_kind(spot) == NUM for spot in (p, q))

    def put(self, test):
        """These facts and one more that keeps them in order; these ones are not changed."""
        if test[0] == "most":
            return Known(self.ground, self.kind, self.makes, self.bounds.put(test[1], test[2], test[3]))
        makes = {spot: self.makes[spot] for spot in self.makes}
        makes[test[1]] = test[2]
        return Known(self.ground, self.kind, makes, self.bounds)

    def make_word(self, spot, make):
        """The word of a make at a spot that stands."""
        known = self.known_at(spot)
        if known is None:
            return OPEN
        return SURE if known == make else BARRED

    def most_word(self, p, q, d):
        """The word of a "most" at spots that stand."""
        if self.bounds.is_told(p, q, d):
            return SURE
        return BARRED if self.bounds.is_told(q, p, -d - 1) else OPEN

    def fresh_word(self, test):
        """The word of a test, worked out."""
        spots = [test[1]] if test[0] == "is" else [spot for spot in (test[1], test[2]) if spot is not None]
        word = whole_word([self.way_word(spot) for spot in spots])
        if word != SURE:
            return word
        if test[0] == "is":
            return self.make_word(test[1], test[2])
        return self.most_word(test[1], test[2], test[3])

    def word_of(self, test):
        """The word of a test; the facts are not at odds."""
        if test not in self.words:
            self.words[test] = self.fresh_word(test)
        return self.words[test]

    def line_word(self, line):
        """The word of a line."""
        told = SURE
        for test in line[0]:
            word = self.word_of(test)
            if word == BARRED:
                return BARRED
            if word == OPEN:
                told = OPEN
        return told

    def open_test(self, line):
        """The first open test of a line; None where it has none."""
        for test in line[0]:
            if self.word_of(test) == OPEN:
                return test
        return None

    def row_word(self, lines):
        """The word of a row, told by its lines."""
        told = BARRED
        for line in lines:
            word = self.line_word(line)
            if word == SURE:
                return SURE
            if word == OPEN:
                told = OPEN
        return told

    def decided(self, rows):
        """(i, k) where line k of row i is sure and each ahead of it barred; None where all are; else open."""
        for i, lines in enumerate(rows):
            for k, line in enumerate(lines):
                word = self.line_word(line)
                if word != BARRED:
                    return (i, k) if word == SURE else OPEN
        return None


def no_facts(ground, kind):
    """What is known of values of a kind from no facts."""
    return Known(ground, kind, {}, Bounds({}, False))
