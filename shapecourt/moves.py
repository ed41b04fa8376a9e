"""Moves of rows: done where they change what is told of no value."""

from shapecourt.alike import alike
from shapecourt.cases import MOST_ROWS, row_at
from shapecourt.errors import Changes, NoMerge
from shapecourt.seeking import comes
from shapecourt.shapes import is_shape


def with_rows(cases, rows):
    """Cases of the same kinds with other rows."""
    return (cases[0], cases[1], tuple(rows))


def unless_changed(book, cases, rows):
    """The cases with other rows; refused with Changes where these tell unlike things of a value."""
    fresh = with_rows(cases, rows)
    word, shown = alike(book, cases, fresh)
    if word == "value":
        raise Changes(shown)
    return fresh


def left_out(book, cases, i):
    """The cases without row i."""
    row_at(cases, i)
    rows = cases[2]
    return unless_changed(book, cases, rows[:i] + rows[i + 1:])


def exchanged(book, cases, i):
    """The cases with rows i and i + 1 exchanged."""
    one, other = row_at(cases, i), row_at(cases, i + 1)
    rows = cases[2]
    return unless_changed(book, cases, rows[:i] + (other, one) + rows[i + 2:])


def moved(book, cases, i, j):
    """The cases with row i taken out and put in as row j."""
    row = row_at(cases, i)
    row_at(cases, j)
    rows = cases[2][:i] + cases[2][i + 1:]
    return unless_changed(book, cases, rows[:j] + (row,) + rows[j:])


def merged(book, cases, i):
    """The cases with rows i and i + 1 merged to one."""
    one, other = row_at(cases, i), row_at(cases, i + 1)
    shape = ("either", (one[0], other[0]))
    if one[1:] != other[1:] or not is_shape(book, cases[0], shape):
        raise NoMerge("these rows are not to be merged")
    rows = cases[2]
    return with_rows(cases, rows[:i] + ((shape,) + one[1:],) + rows[i + 2:])


def parted(book, cases, i):
    """The cases with row i parted into a row for each side of its either."""
    row = row_at(cases, i)
    shape = row[0]
    if shape[0] != "either":
        raise NoMerge("only an either is parted")
    sides = tuple([(side,) + row[1:] for side in shape[1]])
    rows = cases[2][:i] + sides + cases[2][i + 1:]
    if len(rows) > MOST_ROWS:
        raise NoMerge("there would be too many rows")
    return with_rows(cases, rows)


def tidied(book, cases):
    """The cases without all rows that never come, and the old numbers of those left."""
    numbers = [i for i in range(len(cases[2])) if comes(book, cases, i)[0] == "value"]
    return with_rows(cases, [cases[2][i] for i in numbers]), numbers
