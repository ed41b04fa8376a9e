"""Trees of looks: whether they are right, where values go in them, how deep they are."""

from shapecourt.cases import all_lines
from shapecourt.grounds import Ground
from shapecourt.growing import own_tree
from shapecourt.judging import let_by
from shapecourt.known import OPEN, no_facts
from shapecourt.lines import holds
from shapecourt.looks import look_and_behind, look_test, looks_among
from shapecourt.spots import part_at


def is_right_tree(ground, cases, rows, tree):
    """Whether a tree is right, the lines of the cases' rows being told."""

    def leaf_let(known, leaf):
        told = known.decided(rows)
        return told != OPEN and leaf == (("none",) if told is None else ("row",) + told)

    return let_by(no_facts(ground, cases[0]), tree, leaf_let)


def is_right(book, cases, tree):
    """Whether a tree is right."""
    ground = Ground(book)
    return is_right_tree(ground, cases, all_lines(ground, cases), tree)


def has_looks_of(rows, tree):
    """Whether each look in a tree is one of the rows' looks, just as it stands there."""
    looks = looks_among(rows)
    pending = [tree]
    while pending:
        look, trees = look_and_behind(pending.pop())
        if look is not None and look not in looks:
            return False
        pending.extend(trees)
    return True


def is_own(book, cases, tree):
    """Whether a tree is right, each of its looks being one of the cases' own."""
    ground = Ground(book)
    rows = all_lines(ground, cases)
    return has_looks_of(rows, tree) and is_right_tree(ground, cases, rows, tree)


def tree_of(book, cases):
    """An own tree of cases."""
    ground = Ground(book)
    return own_tree(ground, cases[0], all_lines(ground, cases))


def outcome_of(ground, look, value):
    """The number of the outcome that a look has for a value."""
    if look[0] == "split":
        return 0 if holds(value, look_test(look)) else 1
    make = part_at(value, look[1])[0]
    return ground.coming[ground.kinds[make]].index(make)


def gone(book, tree, value):
    """The leaf to which a value goes through a tree, and how many looks and splits it meets."""
    ground = Ground(book)
    met_so_far = 0
    look, trees = look_and_behind(tree)
    while look is not None:
        tree = trees[outcome_of(ground, look, value)]
        met_so_far += 1
        look, trees = look_and_behind(tree)
    return tree, met_so_far


def levels_of(tree):
    """How many leaves stand behind how many looks: a list, from 0 looks on."""
    counts = []
    level = [tree]
    while level:
        behind = [look_and_behind(inner) for inner in level]
        counts.append(len([look for look, trees in behind if look is None]))
        level = [inner for look, trees in behind for inner in trees]
    return counts


def depth(tree):
    """The most looks and splits on a way from a tree's top to a leaf."""
    return len(levels_of(tree)) - 1


def leaves(tree):
    """How many leaves a tree has."""
    return sum(levels_of(tree))
