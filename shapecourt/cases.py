"""Cases: rows of shapes, guards and answers, and what they tell of a value."""

from shapecourt.errors import NoRow
from shapecourt.grounds import Ground
from shapecourt.kinds import NUM
from shapecourt.lines import fits, shape_lines
from shapecourt.shapes import measured
from shapecourt.spots import part_at
from shapecourt.words import form_of, is_tuple_of, is_whole

SIGNS = ("<", "<=", "=", ">=", ">")
ANSWER_FORMS = (("num", 2), ("held", 2), ("make", 3))
MOST_ROWS = 8
MOST_COMPARISONS = 4
DEEPEST_ANSWER = 12


def is_held_at(held, name, kind):
    """Whether a thing is a name held at a kind; held is a dict of names' kinds."""
    return isinstance(name, str) and held.get(name) == kind


def is_comparison(held, thing):
    """Whether a thing compares a name held at `num` with another one or with a number."""
    if not is_tuple_of(thing, 3, 3):
        return False
    left, sign, right = thing
    if not is_held_at(held, left, NUM) or sign not in SIGNS:
        return False
    return is_whole(right) or is_held_at(held, right, NUM)


def is_guard(held, thing):
    """Whether a thing is a guard over the names held."""
    return is_tuple_of(thing, 0, MOST_COMPARISONS) and all(is_comparison(held, part) for part in thing)


def made_answer_depth(ground, held, kind, make, parts):
    """What `answer_depth` tells of a make's answer."""
    if make not in ground.coming[kind]:
        return None
    fields = ground.fields[make]
    if not is_tuple_of(parts, len(fields), len(fields)):
        return None
    depths = [answer_depth(ground, held, field, part) for field, part in zip(fields, parts)]
    if None in depths:
        return None
    return 1 + max(depths, default=0)


def answer_depth(ground, held, kind, thing):
    """How deep an answer of a kind is, held being a dict of names' kinds; None of a thing that is no answer."""
    form = form_of(thing, ANSWER_FORMS)
    if form == "num":
        return 1 if kind == NUM and is_whole(thing[1]) else None
    if form == "held":
        return 1 if is_held_at(held, thing[1], kind) else None
    if form == "make":
        return made_answer_depth(ground, held, kind, thing[1], thing[2])
    return None


def is_row(ground, first, second, thing):
    """Whether a thing is a row whose shape is of the first kind, its answer of the second."""
    if not is_tuple_of(thing, 3, 3):
        return False
    shape, guard, answer = thing
    size = measured(ground, first, shape)
    if size is None:
        return False
    held = dict(size[2])
    depth = answer_depth(ground, held, second, answer)
    return is_guard(held, guard) and depth is not None and depth <= DEEPEST_ANSWER


def is_cases(book, thing):
    """Whether a thing is cases that fit the book."""
    if not is_tuple_of(thing, 3, 3):
        return False
    first, second, rows = thing
    ground = Ground(book)
    if first not in ground.plain or second not in ground.plain or not is_tuple_of(rows, 0, MOST_ROWS):
        return False
    return all(is_row(ground, first, second, row) for row in rows)


def comparison_tests(spots, comparison):
    """The tests of one comparison, held names being at their spots."""
    left, sign, right = comparison
    p = spots[left]
    # A number at the right is that much more than None, a name no more than its spot.
    q, more = (None, right) if is_whole(right) else (spots[right], 0)
    if sign == "<":
        return [("most", p, q, more - 1)]
    if sign == "<=":
        return [("most", p, q, more)]
    if sign == ">=":
        return [("most", q, p, -more)]
    if sign == ">":
        return [("most", q, p, -more - 1)]
    return [("most", p, q, more), ("most", q, p, -more)]


def guard_tests(guard, line):
    """The tests of a guard by a line."""
    spots = dict(line[1])
    return [test for comparison in guard for test in comparison_tests(spots, comparison)]


def row_at(cases, i):
    """Row i of cases; refused with NoRow where there is none."""
    rows = cases[2]
    if not 0 <= i < len(rows):
        raise NoRow("no row has this number")
    return rows[i]


def lines_behind(ground, row):
    """The lines of a row: its shape's, with the guard's tests behind."""
    shape, guard, answer = row
    lines = shape_lines(ground, shape, ())
    return [(line[0] + tuple(guard_tests(guard, line)), line[1]) for line in lines]


def all_lines(ground, cases):
    """The lines of each row, in order."""
    return [lines_behind(ground, row) for row in cases[2]]


def first_fitting(lines, value):
    """The number of the first line that fits a value, or None."""
    for k, line in enumerate(lines):
        if fits(value, line):
            return k
    return None


def row_lines(book, cases, i):
    """The lines of row i."""
    return lines_behind(Ground(book), row_at(cases, i))


def line_of(book, cases, i, value):
    """The number of the first line of row i that takes a value, or None."""
    return first_fitting(row_lines(book, cases, i), value)


def takes(book, cases, i, value):
    """Whether row i takes a value, whatever rows are ahead of it."""
    return line_of(book, cases, i, value) is not None


def made_by(answer, spots, value):
    """The value that an answer makes of a value, held names being at their spots."""
    if answer[0] == "num":
        return answer[1]
    if answer[0] == "held":
        return part_at(value, spots[answer[1]])
    return (answer[1],) + tuple([made_by(part, spots, value) for part in answer[2]])


def told(book, cases, value):
    """The number of the first row that takes a value, and what its answer makes of it; None where none does."""
    for i, lines in enumerate(all_lines(Ground(book), cases)):
        k = first_fitting(lines, value)
        if k is not None:
            return (i, made_by(cases[2][i][2], dict(lines[k][1]), value))
    return None
