"""Bounds of numbers at spots by one another, as "most" facts tell them."""


def with_way(row, d, further):
    """The least ways of one spot, those that go on by d and then further among them."""
    least = {q: row[q] for q in row}
    for q in further:
        if q not in least or d + further[q] < least[q]:
            least[q] = d + further[q]
    return least


class Bounds:
    """The least way from each spot, or None, to each other; or that they are at odds."""

    def __init__(self, ways, odds):
        # By p, then by q, the reach from p to q; each p that stands here has itself at 0.
        self.ways = ways
        self.odds = odds

    def reach(self, p, q):
        """The reach from p to q, None where there is none."""
        if p == q:
            return 0
        return self.ways[p].get(q) if p in self.ways else None

    def is_told(self, p, q, d):
        """Whether it follows that the number at p is at most that at q and d."""
        least = self.reach(p, q)
        return least is not None and least <= d

    def put(self, p, q, d):
        """These bounds and one more; these ones are not changed."""
        if self.odds or self.is_told(p, q, d):
            return self
        if self.is_told(q, p, -d - 1):
            return Bounds(self.ways, True)
        ways = {a: self.ways[a] for a in self.ways}
        for a in (p, q):
            ways[a] = ways.get(a, {a: 0})
        further = ways[q]
        for a in list(ways):
            if p in ways[a]:
                ways[a] = with_way(ways[a], ways[a][p] + d, further)
        return Bounds(ways, False)

    def numbers(self):
        """A number for each spot that is bound, so that all bounds hold; not where they are at odds."""
        # Each p is at most q and its reach to q. So the least reach of each, whatever it leads to, keeps all bounds;
        # they stay kept where all are moved alike, until None is at 0.
        least = {p: min(self.ways[p].values()) for p in self.ways}
        at_none = least.get(None, 0)
        return {p: least[p] - at_none for p in least if p is not None}


def bounds_of(facts):
    """The bounds that facts tell."""
    bounds = Bounds({}, False)
    for test in facts:
        if test[0] == "most":
            bounds = bounds.put(test[1], test[2], test[3])
    return bounds
