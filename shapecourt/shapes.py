"""Shapes: what they are, how deep, with how many lines, and what they hold."""

from shapecourt.grounds import Ground
from shapecourt.kinds import NUM, are_unlike
from shapecourt.words import form_of, is_tuple_of, is_whole, is_word

SHAPE_FORMS = (("any", 1), ("num", 3), ("make", 3), ("held", 3), ("either", 2))
MOST_SIDES = 4
MOST_DEEP = 12
MOST_LINES = 24
# How deep, how many lines, what is held.
FLAT = (1, 1, ())


def is_span(low, high):
    """Whether both are whole numbers or None, low at most high where both are numbers."""
    if not all(bound is None or is_whole(bound) for bound in (low, high)):
        return False
    return low is None or high is None or low <= high


def names_among(held):
    """The names of pairs (name, kind)."""
    return [name for name, kind in held]


def measured_make(ground, kind, make, shapes):
    """What `measured` tells of a make's shape."""
    if not isinstance(make, str) or ground.kinds.get(make) != kind:
        return None
    fields = ground.fields[make]
    if not is_tuple_of(shapes, len(fields), len(fields)):
        return None
    sizes = [measured(ground, field, shape) for field, shape in zip(fields, shapes)]
    if None in sizes:
        return None
    held = tuple([pair for size in sizes for pair in size[2]])
    if not are_unlike(names_among(held)):
        return None
    lines = 1 if ground.comes(make) else 0
    for size in sizes:
        lines *= size[1]
    return (1 + max([size[0] for size in sizes], default=0), lines, held)


def measured_held(ground, kind, name, shape):
    """What `measured` tells of a held shape."""
    size = measured(ground, kind, shape)
    if size is None or not is_word(name) or name in ground.kinds or name in names_among(size[2]):
        return None
    return (1 + size[0], size[1], ((name, kind),) + size[2])


def measured_either(ground, kind, sides):
    """What `measured` tells of an either."""
    if not is_tuple_of(sides, 1, MOST_SIDES):
        return None
    sizes = [measured(ground, kind, side) for side in sides]
    if None in sizes:
        return None
    held = sizes[0][2]
    if not all(sorted(size[2]) == sorted(held) for size in sizes):
        return None
    return (1 + max([size[0] for size in sizes]), sum([size[1] for size in sizes]), held)


def measured_form(ground, kind, thing):
    """What `measured` tells, whatever the bounds of depth and lines are."""
    form = form_of(thing, SHAPE_FORMS)
    if form == "any":
        return FLAT
    if form == "num":
        return FLAT if kind == NUM and is_span(thing[1], thing[2]) else None
    if form == "make":
        return measured_make(ground, kind, thing[1], thing[2])
    if form == "held":
        return measured_held(ground, kind, thing[1], thing[2])
    if form == "either":
        return measured_either(ground, kind, thing[1])
    return None


def measured(ground, kind, thing):
    """How deep a shape of a kind is, how many lines it has, what it holds; None of a thing that is none."""
    size = measured_form(ground, kind, thing)
    if size is None or size[0] > MOST_DEEP or size[1] > MOST_LINES:
        return None
    return size


def is_shape(book, kind, thing):
    """Whether a thing is a shape of a kind."""
    return measured(Ground(book), kind, thing) is not None


def holds_of(book, kind, shape):
    """The names that a shape of a kind holds, in the order of writing, as pairs (name, kind)."""
    return list(measured(Ground(book), kind, shape)[2])
