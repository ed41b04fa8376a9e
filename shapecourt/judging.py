"""The judge that walks papers: looks and splits, down to leaves that another function judges."""

from shapecourt.lines import contrary


def looked(known, spot, papers):
    """The papers of a look, each with what is known there; None where the look is not let by."""
    makes = known.makes_to_see(spot)
    if not makes or len(makes) != len(papers):
        return None
    return [(known.put(("is", spot, make)), paper) for make, paper in zip(makes, papers)]


def both_sides(known, test, yes, no):
    """The two papers of a split, each with what is known there; None where the split is not let by."""
    if not known.keeps(test):
        return None
    return [(known.put(test), yes), (known.put(contrary(test)), no)]


def let_by(known, paper, leaf_let):
    """Whether a paper is let by, leaf_let(known, leaf) telling it of a leaf behind facts that are not at odds."""
    # No calls within calls: a paper may be deeper than those may be.
    pending = [(known, paper)]
    while pending:
        here, inner = pending.pop()
        if here.bounds.odds:
            continue
        if inner[0] == "look":
            further = looked(here, inner[1], inner[2])
        elif inner[0] == "split":
            further = both_sides(here, ("most", inner[1], inner[2], inner[3]), inner[4], inner[5])
        else:
            further = [] if leaf_let(here, inner) else None
        if further is None:
            return False
        pending.extend(further)
    return True
