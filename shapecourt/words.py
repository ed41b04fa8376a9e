"""Plain things: words, whole numbers, tuples of a bounded count, tuples of told forms."""

LETTERS = "abcdefghijklmnopqrstuvwxyz"
LONGEST_WORD = 8


def is_whole(thing):
    """Whether a thing is a whole number; True and False are none."""
    return isinstance(thing, int) and not isinstance(thing, bool)


def is_word(thing):
    """Whether a thing is a text of 1 to 8 letters a to z."""
    if not isinstance(thing, str):
        return False
    return 1 <= len(thing) <= LONGEST_WORD and all(sign in LETTERS for sign in thing)


def is_tuple_of(thing, fewest, most):
    """Whether a thing is a tuple with from fewest to most things in it."""
    return isinstance(thing, tuple) and fewest <= len(thing) <= most


def form_of(thing, forms):
    """The word that a thing begins with, where one of the forms (word, count of things) is its own; else None."""
    for word, count in forms:
        if is_tuple_of(thing, count, count) and thing[0] == word:
            return word
    return None
