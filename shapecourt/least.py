"""Least trees, and papers of an answerer that no own tree has fewer looks on its longest way."""

from shapecourt.cases import all_lines
from shapecourt.errors import TooMany
from shapecourt.grounds import Ground
from shapecourt.growing import asked
from shapecourt.known import OPEN, no_facts
from shapecourt.looks import facts_from, look_test, looks_among, multiplied

MOST_STATES = 7000
ASK_NO_MORE = ("open",)


def is_open(known, look):
    """Whether a look is open behind facts."""
    if look[0] == "look":
        return len(known.makes_to_see(look[1])) > 0
    return known.keeps(look_test(look)) and known.word_of(look_test(look)) == OPEN


class Asking:
    """What comes of asking the looks of cases. A state is a tuple of pairs (look's number, outcome's), rising."""

    def __init__(self, ground, cases):
        self.rows = all_lines(ground, cases)
        self.looks = list(looks_among(self.rows))
        self.facts = [facts_from(ground, cases[0], look) for look in self.looks]
        # Each by its state, so that what comes of the same outcomes in another order is worked out once.
        self.known = {(): no_facts(ground, cases[0])}
        self.seen = {}
        self.depths = {}
        self.papers = {}

    def seen_at(self, state):
        """What the cases are decided to tell in a state (or open), and the numbers of the looks that are open."""
        if state not in self.seen:
            known = self.known[state]
            numbers = [number for number, look in enumerate(self.looks) if is_open(known, look)]
            self.seen[state] = (known.decided(self.rows), numbers)
        return self.seen[state]

    def state_behind(self, state, number, n):
        """The state where a look is asked in a state and has outcome n."""
        behind = tuple(sorted(state + ((number, n),)))
        if behind not in self.known:
            self.known[behind] = self.known[state].put(self.facts[number][n])
        return behind

    def states_behind(self, state, number):
        """The states, one for each outcome, where a look is asked in a state."""
        return [self.state_behind(state, number, n) for n in range(len(self.facts[number]))]

    def longest_way(self, state, number):
        """The looks to come, this one too, where a look is asked in a state and the least is done behind it."""
        return 1 + max([self.least_at(behind)[0] for behind in self.states_behind(state, number)])

    def least_at(self, state):
        """The least depth of an own tree from a state on, and the number of the look to begin with, or None."""
        if state not in self.depths:
            told, numbers = self.seen_at(state)
            ways = [(self.longest_way(state, number), number) for number in numbers] if told == OPEN else [(0, None)]
            self.depths[state] = min(ways)
        return self.depths[state]

    def tree_at(self, state):
        """An own tree of the least depth from a state on."""
        number = self.least_at(state)[1]
        if number is not None:
            return asked(self.looks[number], [self.tree_at(behind) for behind in self.states_behind(state, number)])
        told = self.seen_at(state)[0]
        return ("none",) if told is None else ("row",) + told

    def paper_at(self, state, most):
        """An answerer's paper that no own tree from a state on has a depth of at most most."""
        if most == 0:
            return ASK_NO_MORE
        # Each look asked leaves one fewer, so a state always comes with the same most.
        if state not in self.papers:
            told, numbers = self.seen_at(state)
            self.papers[state] = ("ask", tuple([self.reply_to(state, number, most) for number in numbers]))
        return self.papers[state]

    def reply_to(self, state, number, most):
        """The first answer to a look in a state that leaves no own tree of a depth below most."""
        states = self.states_behind(state, number)
        n = [self.least_at(behind)[0] >= most for behind in states].index(True)
        return (n, self.paper_at(states[n], most - 1))


def least_tree(book, cases):
    """An own tree of the least depth, and an answerer's paper that none is less deep (None where its depth is 0)."""
    ground = Ground(book)
    asking = Asking(ground, cases)
    if multiplied(ground, cases[0], asking.looks, 1) > MOST_STATES:
        raise TooMany("the looks have too many outcomes for the least tree")
    deep = asking.least_at(())[0]
    paper = asking.paper_at((), deep - 1) if deep > 0 else None
    return asking.tree_at(()), paper


def papers_behind(asking, state, most, paper):
    """The papers behind a paper for most, as triples with their states and most; None where it is not let by."""
    told, numbers = asking.seen_at(state)
    if told != OPEN or most < 0:
        return None
    if most == 0:
        return [] if paper == ASK_NO_MORE else None
    if paper[0] != "ask" or len(paper[1]) != len(numbers):
        return None
    replies = list(zip(numbers, paper[1]))
    if not all(0 <= n < len(asking.facts[number]) for number, (n, inner) in replies):
        return None
    return [(asking.state_behind(state, number, n), most - 1, inner) for number, (n, inner) in replies]


def lets_least(book, cases, most, paper):
    """Whether an answerer's paper that no own tree has a depth of at most most is let by."""
    asking = Asking(Ground(book), cases)
    # No calls within calls: a paper may be deeper than those may be.
    pending = [((), most, paper)]
    while pending:
        state, looks_left, inner = pending.pop()
        further = papers_behind(asking, state, looks_left, inner)
        if further is None:
            return False
        pending.extend(further)
    return True
