"""Looks: what may be asked of a value to tell the tests of rows, and what comes of asking."""

from shapecourt.errors import TooMany
from shapecourt.lines import contrary
from shapecourt.spots import kind_reached

MOST_OUTCOMES = 20000


def look_of(test):
    """The look that tells a test."""
    if test[0] == "is":
        return ("look", test[1])
    return ("split",) + test[1:]


def own_look(looks, test):
    """The look that tells a test as it stands in a dict of looks: a "most", or its contrary; else None."""
    if look_of(test) in looks:
        return look_of(test)
    turned = look_of(contrary(test)) if test[0] == "most" else None
    return turned if turned in looks else None


def looks_among(rows):
    """The looks of rows, told by their lines: a dict of True by look; of a test and its contrary the first."""
    looks = {}
    for test in [test for lines in rows for line in lines for test in line[0]]:
        # A number is never asked for against itself: nothing is open about it. (A spot is no make, of an "is".)
        if test[1] != test[2] and own_look(looks, test) is None:
            looks[look_of(test)] = True
    return looks


def look_test(split):
    """The test that a split tells."""
    return ("most",) + split[1:]


def facts_from(ground, kind, look):
    """The fact of each outcome of a look at values of a kind, in order."""
    if look[0] == "look":
        return [("is", look[1], make) for make in ground.coming[kind_reached(ground, kind, look[1])]]
    return [look_test(look), contrary(look_test(look))]


def look_and_behind(tree):
    """The look at the top of a tree or paper, and what is behind each outcome of it; None and nothing of a leaf."""
    if tree[0] == "look":
        return tree[:2], tree[2]
    if tree[0] == "split":
        return tree[:4], tree[4:]
    return None, ()


def multiplied(ground, kind, looks, more):
    """The product of the outcomes of all looks, so many more for each look."""
    product = 1
    for look in looks:
        product *= more + len(facts_from(ground, kind, look))
    return product


def check_outcomes(ground, kind, looks):
    """Refuses looks that have too many outcomes for seeking."""
    if multiplied(ground, kind, looks, 0) > MOST_OUTCOMES:
        raise TooMany("the looks have too many outcomes")
