"""Books, and values and shapes by chance, for the tests."""

TREES = (("tree", (("leaf", ()), ("node", ("tree", "num", "tree")))),)
# knot, turn and void never come; so case is the only make of box that does, both the only one of pair at all.
MIXED = (
    ("tree", (("knot", ("loop",)), ("leaf", ()), ("node", ("tree", "num", "tree")), ("tip", ("box", "num")))),
    ("loop", (("turn", ("loop", "num")),)),
    ("box", (("case", ("num", "num")), ("void", ("loop", "box")))),
    ("pair", (("both", ("tree", "box", "pick", "num")),)),
    ("pick", (("red", ()), ("blue", ()), ("grey", ("num",)))),
)
HUGE = 10 ** 60 - 1
ANY = ("any",)
LEAF = ("leaf",)
NODE = ("make", "node", (ANY, ANY, ANY))


def coming(book, kind):
    """The makes of a kind that come, by the flattest depth of each kind's values."""
    known = {"num"}
    for number in range(len(book)):
        known |= {name for name, makes in book if any(set(fields) <= known for make, fields in makes)}
    return [make for name, makes in book if name == kind for make in makes if set(make[1]) <= known]


def chance_number(chance):
    return chance.choice((0, 1, 2, 3, -1, -2, HUGE, -HUGE))


def chance_value(chance, book, kind, deep):
    """Some value of a kind; so many levels of chance, then the flattest makes."""
    if kind == "num":
        return chance_number(chance)
    makes = coming(book, kind)
    if deep <= 0:
        flat = [make for make in makes if not set(make[1]) & {kind}]
        makes = flat or makes
    name, fields = chance.choice(makes)
    return (name,) + tuple(chance_value(chance, book, field, deep - 1) for field in fields)


def bare_shape(chance, book, kind, deep):
    """Some shape of a kind that holds nothing; makes that don't come are among it."""
    choice = chance.randint(0, 6)
    if deep <= 0 or choice == 0:
        return ANY
    if choice == 1:
        return ("either", tuple(bare_shape(chance, book, kind, deep - 1) for side in range(chance.randint(1, 3))))
    if kind == "num":
        bounds = [chance.choice((None, chance_number(chance))) for side in range(2)]
        if None not in bounds:
            bounds.sort()
        return ("num", bounds[0], bounds[1])
    name, fields = chance.choice(dict(book)[kind])
    return ("make", name, tuple(bare_shape(chance, book, field, deep - 1) for field in fields))


def held_shape(chance, book, kind, deep, names):
    """Some shape that holds the names left in a list where it likes; taken names leave the list."""
    if names and chance.randint(0, 2) == 0:
        name = names.pop()
        return ("held", name, held_shape(chance, book, kind, deep - 1, names))
    if kind == "num" or deep <= 0:
        return bare_shape(chance, book, kind, deep)
    name, fields = chance.choice(dict(book)[kind])
    return ("make", name, tuple(held_shape(chance, book, field, deep - 1, names) for field in fields))


def seen_by(shape, value):
    """Whether a value has a shape, read off the shape itself, not its lines."""
    if shape[0] == "any":
        return True
    if shape[0] == "num":
        return (shape[1] is None or shape[1] <= value) and (shape[2] is None or value <= shape[2])
    if shape[0] == "make":
        return value[0] == shape[1] and all(map(seen_by, shape[2], value[1:]))
    if shape[0] == "held":
        return seen_by(shape[2], value)
    return any(seen_by(side, value) for side in shape[1])


def nested_value(deep):
    """A tree so deep."""
    value = LEAF
    for number in range(deep - 1):
        value = ("node", LEAF, number, value)
    return value


def nested_shape(deep, inner=ANY):
    """Held names around a shape: so much deeper than inner."""
    for number in range(deep):
        inner = ("held", "abcdefghijklmnop"[number], inner)
    return inner


def numbers_either(count):
    """A shape of num with so many lines, at most 4 ** 3."""
    if count <= 4:
        return ("either", (ANY,) * count)
    quarter = -(-count // 4)
    sides = []
    while count > 0:
        sides.append(numbers_either(min(quarter, count)))
        count -= quarter
    return ("either", tuple(sides))
