"""Tests, and the lines of shapes: which tests a value is put to, what is held where."""

from shapecourt.grounds import Ground
from shapecourt.spots import part_at
from shapecourt.words import is_whole

NO_TESTS = ((), ())


def number_at(value, spot):
    """The number of a value at a spot, 0 at None; None where no number is there."""
    part = 0 if spot is None else part_at(value, spot)
    return part if is_whole(part) else None


def holds(value, test):
    """Whether a test holds of a value; never where the value hasn't what the test asks for."""
    if test[0] == "is":
        part = part_at(value, test[1])
        return isinstance(part, tuple) and part[0] == test[2]
    left = number_at(value, test[1])
    right = number_at(value, test[2])
    return left is not None and right is not None and left <= right + test[3]


def contrary(test):
    """The "most" that holds of just those numbers of which a "most" doesn't."""
    word, p, q, d = test
    return (word, q, p, -d - 1)


def fits(value, line):
    """Whether all tests of a line hold of a value."""
    return all(holds(value, test) for test in line[0])


def span_tests(low, high, spot):
    """The tests of a num shape at a spot."""
    lower = () if low is None else (("most", None, spot, -low),)
    upper = () if high is None else (("most", spot, None, high),)
    return lower + upper


def joined(line, more):
    """A line with another's tests and holds behind its own."""
    return (line[0] + more[0], line[1] + more[1])


def make_lines(ground, make, shapes, spot):
    """The lines of a make's shape at a spot."""
    if not ground.comes(make):
        return []
    is_sole = ground.sole(ground.kinds[make]) == make
    lines = [NO_TESTS if is_sole else ((("is", spot, make),), ())]
    for i, shape in enumerate(shapes):
        part_lines = shape_lines(ground, shape, spot + ((make, i),))
        lines = [joined(line, more) for line in lines for more in part_lines]
    return lines


def shape_lines(ground, shape, spot):
    """The lines of a shape at a spot."""
    word = shape[0]
    if word == "any":
        return [NO_TESTS]
    if word == "num":
        return [(span_tests(shape[1], shape[2], spot), ())]
    if word == "make":
        return make_lines(ground, shape[1], shape[2], spot)
    if word == "held":
        return [joined(((), ((shape[1], spot),)), line) for line in shape_lines(ground, shape[2], spot)]
    return [line for side in shape[1] for line in shape_lines(ground, side, spot)]


def lines_of(book, kind, shape, spot):
    """The lines of a shape of the kind at a spot."""
    return shape_lines(Ground(book), shape, spot)
