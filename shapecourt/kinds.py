"""Books of kinds: their makes, which of these come, and plain values."""

from shapecourt.words import is_tuple_of, is_word

NUM = "num"
MOST_KINDS = 6
MOST_MAKES = 6
MOST_FIELDS = 4


def has_make_form(thing):
    """Whether a thing is a pair of a word and a tuple of words, as few as fields may be."""
    if not is_tuple_of(thing, 2, 2) or not is_word(thing[0]):
        return False
    return is_tuple_of(thing[1], 0, MOST_FIELDS) and all(is_word(field) for field in thing[1])


def has_kind_form(thing):
    """Whether a thing is a pair of a word and a tuple of makes, whatever words these have."""
    if not is_tuple_of(thing, 2, 2) or not is_word(thing[0]):
        return False
    return is_tuple_of(thing[1], 1, MOST_MAKES) and all(has_make_form(make) for make in thing[1])


def are_unlike(names):
    """Whether no name stands twice in a list."""
    return len(set(names)) == len(names)


def is_book(thing):
    """Whether a thing is a book of kinds."""
    if not is_tuple_of(thing, 1, MOST_KINDS) or not all(has_kind_form(kind) for kind in thing):
        return False
    kinds = [NUM] + [name for name, makes in thing]
    makes_met = [make for name, makes in thing for make in makes]
    fields_met = [field for name, fields in makes_met for field in fields]
    if not are_unlike(kinds) or not are_unlike([name for name, fields in makes_met]):
        return False
    return all(field in kinds for field in fields_met)


def fields_of(book, make):
    """The kinds of a make's parts, in order; of one that doesn't come, too."""
    fields_by_make = {name: fields for kind, makes in book for name, fields in makes}
    return fields_by_make[make]


def kind_of(book, make):
    """The kind that a make is of; of one that doesn't come, too."""
    kind_by_make = {name: kind for kind, makes in book for name, fields in makes}
    return kind_by_make[make]


def all_got(fields, got):
    """Whether each of the fields' kinds has its plain value in the dict got."""
    return all(field in got for field in fields)


def first_made(makes, got):
    """The plain value by the first make that can be made of values got, or None."""
    for name, fields in makes:
        if all_got(fields, got):
            return (name,) + tuple([got[field] for field in fields])
    return None


def next_round(book, got):
    """The plain values, by their kinds, that come of those got in rounds ahead alone."""
    fresh = {}
    for kind, makes in book:
        value = None if kind in got else first_made(makes, got)
        if value is not None:
            fresh[kind] = value
    return fresh


def plain_values(book):
    """The plain value of each kind that has values, `num` among them, by its name."""
    got = {NUM: 0}
    fresh = next_round(book, got)
    while fresh:
        got.update(fresh)
        fresh = next_round(book, got)
    return got


def has_values(book, kind):
    """Whether a kind of the book, or `num`, has values."""
    return kind in plain_values(book)


def makes_of(book, kind):
    """The makes of a kind that come, as pairs, in the book's order; none of `num`."""
    got = plain_values(book)
    own = [make for name, makes in book if name == kind for make in makes]
    return tuple([(name, fields) for name, fields in own if all_got(fields, got)])


def plain_value(book, kind):
    """The plain value of a kind that has values."""
    got = plain_values(book)
    return got[kind]
