"""Texts of books, values and cases: how they are written, and read back."""

from shapecourt.cases import DEEPEST_ANSWER, SIGNS, is_cases
from shapecourt.cursors import cursor_of
from shapecourt.errors import NoText
from shapecourt.grounds import Ground
from shapecourt.kinds import is_book
from shapecourt.shapes import MOST_DEEP
from shapecourt.values import is_value

DEEPEST_VALUE = 30


def in_brackets(name, texts):
    """A make's text, with its parts' texts, where it has any, in brackets."""
    return name + "(" + " ".join(texts) + ")" if texts else name


def written_kind(kind):
    """The text of a kind of a book."""
    name, makes = kind
    return name + " = " + " | ".join([in_brackets(make, fields) for make, fields in makes])


def written_book(book):
    """The text of a book."""
    return "; ".join([written_kind(kind) for kind in book])


def pieces_of(value):
    """What the text of a made value is put together of: texts, and parts to be written yet."""
    if len(value) == 1:
        return [value[0]]
    pieces = [value[0] + "("]
    for part in value[1:]:
        pieces.extend([part, " "])
    return pieces[:-1] + [")"]


def written_value(value):
    """The text of a value."""
    # No calls within calls: a value may be deeper than those may be.
    texts = []
    pending = [value]
    while pending:
        piece = pending.pop()
        if isinstance(piece, tuple):
            pending.extend(list(reversed(pieces_of(piece))))
        else:
            texts.append(str(piece))
    return "".join(texts)


def written_bound(bound):
    """The text of one bound of a num shape."""
    return "" if bound is None else str(bound)


def written_shape(shape):
    """The text of a shape."""
    word = shape[0]
    if word == "any":
        return "_"
    if word == "num":
        return written_bound(shape[1]) + ".." + written_bound(shape[2])
    if word == "make":
        return in_brackets(shape[1], [written_shape(part) for part in shape[2]])
    if word == "held":
        return shape[1] + "@" + written_shape(shape[2])
    return "[" + " / ".join([written_shape(side) for side in shape[1]]) + "]"


def written_answer(answer):
    """The text of an answer."""
    if answer[0] == "make":
        return in_brackets(answer[1], [written_answer(part) for part in answer[2]])
    return str(answer[1])


def written_row(row):
    """The text of a row."""
    shape, guard, answer = row
    compared = ", ".join([f"{left} {sign} {right}" for left, sign, right in guard])
    ahead = written_shape(shape) + (" if " + compared if guard else "")
    return ahead + " => " + written_answer(answer)


def written_cases(cases):
    """The text of cases."""
    return "\n".join([cases[0] + " to " + cases[1]] + [written_row(row) for row in cases[2]])


def read_parts(cursor, mark, end, read_one):
    """Reads things with a mark between each two, up to the end; read_one reads one of them."""
    parts = [read_one()]
    while cursor.passes(mark):
        parts.append(read_one())
    cursor.expect(end)
    return tuple(parts)


def read_make(cursor):
    """Reads a make of a book."""
    name = cursor.word()
    return (name, read_parts(cursor, " ", ")", lambda: cursor.word()) if cursor.passes("(") else ())


def read_kind(cursor):
    """Reads a kind of a book."""
    name = cursor.word()
    cursor.expect(" = ")
    return (name, read_parts(cursor, " | ", "", lambda: read_make(cursor)))


def read_book(thing):
    """The book of which a thing is the text."""
    cursor = cursor_of(thing)
    book = read_parts(cursor, "; ", "", lambda: read_kind(cursor))
    cursor.check_end()
    if not is_book(book):
        raise NoText("what the text tells is no book")
    return book


def check_room(room):
    """Refuses what is deeper than anything that is read."""
    if room == 0:
        raise NoText("the text is too deep")


def read_part(cursor, room):
    """Reads a value at most so deep, of whatever kind."""
    if cursor.sees_number():
        return cursor.number()
    check_room(room)
    name = cursor.word()
    if not cursor.passes("("):
        return (name,)
    return (name,) + read_parts(cursor, " ", ")", lambda: read_part(cursor, room - 1))


def read_value(book, kind, thing):
    """The value of a kind of which a thing is the text."""
    cursor = cursor_of(thing)
    value = read_part(cursor, DEEPEST_VALUE)
    cursor.check_end()
    if not is_value(book, kind, value):
        raise NoText("what the text tells is no value of the kind")
    return value


def read_span(cursor):
    """Reads a num shape."""
    low = cursor.number() if cursor.sees_number() else None
    cursor.expect("..")
    high = cursor.number() if cursor.sees_number() else None
    return ("num", low, high)


def read_named_shape(cursor, room):
    """Reads a held shape or one of a make."""
    name = cursor.word()
    if cursor.passes("@"):
        return ("held", name, read_shape(cursor, room))
    if cursor.passes("("):
        return ("make", name, read_parts(cursor, " ", ")", lambda: read_shape(cursor, room)))
    return ("make", name, ())


def read_shape(cursor, room):
    """Reads a shape at most so deep, of whatever kind."""
    check_room(room)
    if cursor.passes("_"):
        return ("any",)
    if cursor.passes("["):
        return ("either", read_parts(cursor, " / ", "]", lambda: read_shape(cursor, room - 1)))
    if cursor.sees(".") or cursor.sees_number():
        return read_span(cursor)
    return read_named_shape(cursor, room - 1)


def read_sign(cursor):
    """Reads the sign of a comparison, and the blank behind it."""
    for sign in SIGNS:
        if cursor.passes(sign + " "):
            return sign
    raise NoText("no comparison has such a sign")


def read_comparison(cursor):
    """Reads a comparison of a guard."""
    left = cursor.word()
    cursor.expect(" ")
    sign = read_sign(cursor)
    return (left, sign, cursor.number() if cursor.sees_number() else cursor.word())


def read_answer(ground, cursor, room):
    """Reads an answer at most so deep, of whatever kind."""
    check_room(room)
    if cursor.sees_number():
        return ("num", cursor.number())
    name = cursor.word()
    if cursor.passes("("):
        return ("make", name, read_parts(cursor, " ", ")", lambda: read_answer(ground, cursor, room - 1)))
    return ("make", name, ()) if name in ground.kinds else ("held", name)


def read_row(ground, cursor):
    """Reads a row."""
    shape = read_shape(cursor, MOST_DEEP)
    guard = read_parts(cursor, ", ", "", lambda: read_comparison(cursor)) if cursor.passes(" if ") else ()
    cursor.expect(" => ")
    return (shape, guard, read_answer(ground, cursor, DEEPEST_ANSWER))


def read_cases(book, thing):
    """The cases of which a thing is the text."""
    ground = Ground(book)
    cursor = cursor_of(thing)
    takes = cursor.word()
    cursor.expect(" to ")
    tells = cursor.word()
    rows = []
    while cursor.passes("\n"):
        rows.append(read_row(ground, cursor))
    cursor.check_end()
    cases = (takes, tells, tuple(rows))
    if not is_cases(book, cases):
        raise NoText("what the text tells is no cases")
    return cases
