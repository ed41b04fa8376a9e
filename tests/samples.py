"""Books, and values and shapes by chance, for the tests."""

import functools

TREES = (("tree", (("leaf", ()), ("node", ("tree", "num", "tree")))),)
# knot, turn and void never come; so case is the only make of box that does, both the only one of pair at all.
MIXED = (
    ("tree", (("knot", ("loop",)), ("leaf", ()), ("node", ("tree", "num", "tree")), ("tip", ("box", "num")))),
    ("loop", (("turn", ("loop", "num")),)),
    ("box", (("case", ("num", "num")), ("void", ("loop", "box")))),
    ("pair", (("both", ("tree", "box", "pick", "num")),)),
    ("pick", (("red", ()), ("blue", ()), ("grey", ("num",)))),
)
HUGE = 10 ** 60 - 1
ANY = ("any",)
LEAF = ("leaf",)
NODE = ("make", "node", (ANY, ANY, ANY))
LEAFED = ("make", "leaf", ())
TIP = ("make", "tip", (ANY, ANY))
KNOT = ("make", "knot", (ANY,))
L, M, R = ("node", 0), ("node", 1), ("node", 2)
T, U, C = ("tip", 0), ("tip", 1), ("case", 0)
ODDS = ("odds",)
# A rack has four looks of 5 outcomes, four of 3, and four numbers; no other make in it is looked at.
RACKS = (
    ("five", (("fa", ()), ("fb", ()), ("fc", ()), ("fd", ()), ("fe", ()))),
    ("fives", (("fs", ("five", "five", "five", "five")),)),
    ("three", (("ta", ()), ("tb", ()), ("tc", ("num",)))),
    ("threes", (("ts", ("three", "three", "three", "three")),)),
    ("nums", (("ns", ("num", "num", "num", "num")),)),
    ("rack", (("rk", ("fives", "threes", "nums")),)),
)


def node(left=ANY, number=ANY, right=ANY):
    return ("make", "node", (left, number, right))


def cases_of(*shapes, first="tree"):
    """Cases of so many rows without guards, each telling its number."""
    return (first, "num", tuple((shape, (), ("num", i)) for i, shape in enumerate(shapes)))


def look(spot, *papers):
    return ("look", spot, papers)


def split(p, q, d, yes, no):
    return ("split", p, q, d, yes, no)


def filled(make, shapes):
    """A shape of a make of four parts, the last ones any."""
    return ("make", make, tuple(shapes) + (ANY,) * (4 - len(shapes)))


def rack(fives=0, threes=0, numbers=()):
    """A shape of rack with so many looks at fives and at threes, and these shapes of numbers."""
    return ("make", "rk", (filled("fs", [("make", "fa", ())] * fives), filled("ts", [("make", "ta", ())] * threes),
                           filled("ns", numbers)))


def chance_question(chance, count):
    """Some question of so many rows; a row perhaps twice, or in both."""
    numbers = range(count)
    return tuple(tuple(chance.choices(numbers, k=chance.randint(0, 2))) if count else () for side in range(2))


def numbers_in(value):
    """Each number in a value."""
    return [value] if isinstance(value, int) else [number for part in value[1:] for number in numbers_in(part)]


def answer_of(cases, value):
    """What cases tell of a value, (row, answer) or None, read off the rows' shapes and guards."""
    for i, row in enumerate(cases[2]):
        found = row_binding(row, value)
        if found is not None:
            return (i, answered(row[2], found))
    return None


@functools.lru_cache(None)
def coming(book, kind):
    """The makes of a kind that come, by the flattest depth of each kind's values."""
    known = {"num"}
    for number in range(len(book)):
        known |= {name for name, makes in book if any(set(fields) <= known for make, fields in makes)}
    return [make for name, makes in book if name == kind for make in makes if set(make[1]) <= known]


def chance_number(chance):
    return chance.choice((0, 1, 2, 3, -1, -2, HUGE, -HUGE))


def chance_value(chance, book, kind, deep):
    """Some value of a kind; so many levels of chance, then the flattest makes."""
    if kind == "num":
        return chance_number(chance)
    makes = coming(book, kind)
    if deep <= 0:
        flat = [make for make in makes if not set(make[1]) & {kind}]
        makes = flat or makes
    name, fields = chance.choice(makes)
    return (name,) + tuple(chance_value(chance, book, field, deep - 1) for field in fields)


def bare_shape(chance, book, kind, deep):
    """Some shape of a kind that holds nothing; makes that don't come are among it."""
    choice = chance.randint(0, 6)
    if deep <= 0 or choice == 0:
        return ANY
    if choice == 1:
        return ("either", tuple(bare_shape(chance, book, kind, deep - 1) for side in range(chance.randint(1, 3))))
    if kind == "num":
        bounds = [chance.choice((None, chance_number(chance))) for side in range(2)]
        if None not in bounds:
            bounds.sort()
        return ("num", bounds[0], bounds[1])
    name, fields = chance.choice(dict(book)[kind])
    return ("make", name, tuple(bare_shape(chance, book, field, deep - 1) for field in fields))


def held_shape(chance, book, kind, deep, names):
    """Some shape that holds the names left in a list where it likes; taken names leave the list."""
    if names and chance.randint(0, 2) == 0:
        name = names.pop()
        return ("held", name, held_shape(chance, book, kind, deep - 1, names))
    if kind == "num" or deep <= 0:
        return bare_shape(chance, book, kind, deep)
    name, fields = chance.choice(dict(book)[kind])
    return ("make", name, tuple(held_shape(chance, book, field, deep - 1, names) for field in fields))


def seen_by(shape, value):
    """Whether a value has a shape, read off the shape itself, not its lines."""
    if shape[0] == "any":
        return True
    if shape[0] == "num":
        return (shape[1] is None or shape[1] <= value) and (shape[2] is None or value <= shape[2])
    if shape[0] == "make":
        return value[0] == shape[1] and all(map(seen_by, shape[2], value[1:]))
    if shape[0] == "held":
        return seen_by(shape[2], value)
    return any(seen_by(side, value) for side in shape[1])


def nested_value(deep):
    """A tree so deep."""
    value = LEAF
    for number in range(deep - 1):
        value = ("node", LEAF, number, value)
    return value


def nested_shape(deep, inner=ANY):
    """Held names around a shape: so much deeper than inner."""
    for number in range(deep):
        inner = ("held", "abcdefghijklmnop"[number], inner)
    return inner


def numbers_either(count):
    """A shape of num with so many lines, at most 4 ** 3."""
    if count <= 4:
        return ("either", (ANY,) * count)
    quarter = -(-count // 4)
    sides = []
    while count > 0:
        sides.append(numbers_either(min(quarter, count)))
        count -= quarter
    return ("either", tuple(sides))


def tied_shape(chance, names):
    """Some shape of tree whose sides hold one name at unlike spots."""
    name = names.pop()
    inner = ("held", name, chance.choice((ANY, ("num", 0, None), ("num", None, 1))))
    sides = [("make", "node", (ANY, inner, ANY)), ("make", "tip", (ANY, inner)),
             ("make", "node", (("make", "node", (ANY, inner, ANY)), ANY, ANY)),
             ("make", "node", (ANY, ANY, ("make", "tip", (("make", "case", (inner, ANY)), ANY))))]
    chance.shuffle(sides)
    return ("either", tuple(sides[:chance.randint(1, 4)]))


def names_held(book, kind, shape):
    """Pairs (name, kind) that a shape holds."""
    if shape[0] == "held":
        return [(shape[1], kind)] + names_held(book, kind, shape[2])
    if shape[0] == "either":
        return names_held(book, kind, shape[1][0])
    if shape[0] == "make":
        fields = [told for name, makes in book for make, told in makes if make == shape[1]][0]
        return [pair for field, part in zip(fields, shape[2]) for pair in names_held(book, field, part)]
    return []


def chance_guard(chance, numbers):
    """Some guard over names held at num."""
    if not numbers:
        return ()
    return tuple((chance.choice(numbers), chance.choice(("<", "<=", "=", ">=", ">")),
                  chance.choice(numbers + [chance.randint(-2, 3), HUGE])) for number in range(chance.randint(0, 2)))


def chance_answer(chance, book, kind, pairs, deep):
    """Some answer of a kind."""
    names = [name for name, at in pairs if at == kind]
    if names and chance.randint(0, 2):
        return ("held", chance.choice(names))
    if kind == "num":
        return ("num", chance_number(chance))
    makes = coming(book, kind)
    if deep <= 0:
        makes = [make for make in makes if kind not in make[1]]
    name, fields = chance.choice(makes)
    return ("make", name, tuple(chance_answer(chance, book, field, pairs, deep - 1) for field in fields))


def chance_row(chance, book, first, second, is_shape):
    """Some row; is_shape tells whether a shape drawn is one."""
    while True:
        names = list("stuvwxyz")
        shape = held_shape(chance, book, first, 3, names)
        if first == "tree" and chance.randint(0, 2) == 0:
            shape = tied_shape(chance, ["x"])
        if is_shape(book, first, shape):
            break
    pairs = names_held(book, first, shape)
    guard = chance_guard(chance, [name for name, kind in pairs if kind == "num"])
    return (shape, guard, chance_answer(chance, book, second, pairs, 2))


def chance_cases(chance, book, is_shape, most=4):
    """Some cases of a book that are of the kinds of MIXED that have values."""
    first = chance.choice(("tree", "tree", "tree", "pair", "box", "pick", "num"))
    second = chance.choice(("tree", "num", "box", "pick"))
    rows = [chance_row(chance, book, first, second, is_shape) for number in range(chance.randint(0, most))]
    return (first, second, tuple(rows))


def bindings(shape, value):
    """Each way to have a shape, in the order of lines: what is held, by names."""
    if shape[0] == "held":
        return [{shape[1]: value, **more} for more in bindings(shape[2], value)]
    if shape[0] == "either":
        return [found for side in shape[1] for found in bindings(side, value)]
    if shape[0] != "make":
        return [{}] if seen_by(shape, value) else []
    if value[0] != shape[1]:
        return []
    found = [{}]
    for part, inner in zip(shape[2], value[1:]):
        found = [{**one, **more} for one in found for more in bindings(part, inner)]
    return found


def compared(left, sign, right):
    return {"<": left < right, "<=": left <= right, "=": left == right, ">=": left >= right, ">": left > right}[sign]


def row_binding(row, value):
    """What a row holds of a value that it takes, read off its shape and guard; None where it doesn't."""
    for found in bindings(row[0], value):
        if all(compared(found[left], sign, found.get(right, right)) for left, sign, right in row[1]):
            return found
    return None


def answered(answer, found):
    if answer[0] == "num":
        return answer[1]
    if answer[0] == "held":
        return found[answer[1]]
    return (answer[1],) + tuple(answered(part, found) for part in answer[2])


@functools.lru_cache(None)
def spots_within(book, kind, deep):
    """Each spot of a kind of at most so many steps, with the kind at it."""
    found = [((), kind)]
    if deep > 0:
        for make, fields in coming(book, kind):
            for i, field in enumerate(fields):
                found += [(((make, i),) + spot, end) for spot, end in spots_within(book, field, deep - 1)]
    return found


def chance_test(chance, book, kind, deep=3):
    """Some test of spots of a kind, "is" of a make that comes there, "most" at num; None where none was drawn."""
    spots = spots_within(book, kind, deep)
    numbers = [spot for spot, end in spots if end == "num"]
    places = [(spot, end) for spot, end in spots if end != "num"]
    if places and (not numbers or chance.randint(0, 1)):
        spot, end = min(chance.choices(places, k=3), key=lambda pair: len(pair[0]))
        return ("is", spot, chance.choice(coming(book, end))[0])
    if not numbers:
        return None
    p, q = [chance.choice([None] + chance.choices(numbers, k=3)) for side in range(2)]
    if p is None and q is None:
        return None
    return ("most", p, q, chance.choice((0, 1, -1, 2, -3, HUGE, -HUGE)))


def chance_facts(chance, book, kind, in_order, most=8):
    """Some facts in order, those drawn being kept where in_order says so."""
    facts = []
    for number in range(6 * most):
        test = chance_test(chance, book, kind)
        if test is not None and len(facts) < most and in_order(book, kind, facts + [test]):
            facts.append(test)
    return facts
