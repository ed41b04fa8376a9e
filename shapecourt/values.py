"""Values: what they are, how deep they are."""

from shapecourt.kinds import NUM
from shapecourt.words import is_whole


def fields_behind(book, kind, thing):
    """The fields of the make, one of a kind of the book, that a thing's first word names; None where it names none."""
    if not isinstance(thing, tuple) or not thing:
        return None
    for name, makes in book:
        for make, fields in makes:
            if name == kind and make == thing[0]:
                return fields
    return None


def is_value(book, kind, thing):
    """Whether a thing is a value of a kind of the book, or of `num`, however deep."""
    # No calls within calls: a value may be deeper than those may be.
    pending = [(kind, thing)]
    while pending:
        kind_here, part = pending.pop()
        if kind_here == NUM:
            if not is_whole(part):
                return False
            continue
        fields = fields_behind(book, kind_here, part)
        if fields is None or len(part) != 1 + len(fields):
            return False
        pending.extend(list(zip(fields, part[1:])))
    return True


def made_among(parts):
    """Those of a list of values that are no numbers."""
    return [part for part in parts if isinstance(part, tuple)]


def depth_of(value):
    """0 of a number, 1 of a make without parts, else 1 more than of its deepest part."""
    deep = 0
    level = made_among([value])
    while level:
        deep += 1
        level = made_among([part for made in level for part in made[1:]])
    return deep
