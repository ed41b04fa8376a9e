"""[1.2], [1.3]: which kinds have values, which makes come, plain values."""

import copy
import random
import unittest

from shapecourt.kinds import has_values, is_book, makes_of, plain_value

TREES = (("tree", (("leaf", ()), ("node", ("tree", "num", "tree")))),)
ENDLESS = (
    ("tree", (("knot", ("loop", "num")), ("node", ("tree", "num", "tree")), ("bend", ("ring",)), ("leaf", ()),
              ("stem", ("num", "tree")))),
    ("loop", (("turn", ("loop",)), ("twist", ("ring", "num")))),
    ("ring", (("band", ("loop",)), ("loop", ("tree", "loop")))),
)
LADDER = (
    ("top", (("t", ("fourth", "num")),)),
    ("fourth", (("d", ("third", "first")), ("dd", ("top",)))),
    ("third", (("c", ("num", "second", "first", "second")),)),
    ("second", (("b", ("first", "num", "first")),)),
    ("first", (("a", ("num", "num")), ("aa", ()))),
)


def depths(book):
    """The depth of the flattest value of each kind that has one, sought by depth and not by rounds."""
    found = {"num": 0}
    changed = True
    while changed:
        changed = False
        for kind, makes in book:
            for name, fields in makes:
                if all(field in found for field in fields):
                    deep = 1 + max([found[field] for field in fields], default=0)
                    if deep < found.get(kind, deep + 1):
                        found[kind] = deep
                        changed = True
    return found


def expected_plain(book, kind):
    """What the plain value has to be: by the first make that gives a flattest value."""
    found = depths(book)
    if kind == "num":
        return 0
    for name, fields in dict(book)[kind]:
        if all(field in found and found[field] < found[kind] for field in fields):
            return (name,) + tuple(expected_plain(book, field) for field in fields)
    raise AssertionError(kind)


def chance_book(chance):
    """Some book: few makes without fields, so that kinds without values are met often."""
    kinds = ["a", "b", "c", "d", "e", "f"][:chance.randint(1, 6)]
    book = []
    for kind in kinds:
        makes = []
        for number in range(chance.randint(1, 4)):
            count = chance.choice((0, 1, 1, 2, 2, 3, 4))
            fields = tuple(chance.choice(kinds + kinds + ["num"]) for place in range(count))
            makes.append((kind + "wxyz"[number], fields))
        book.append((kind, tuple(makes)))
    return tuple(book)


def chance_books(count):
    chance = random.Random(11)
    return [chance_book(chance) for number in range(count)]


class TestHasValues(unittest.TestCase):
    def test_num(self):
        for book in (TREES, ENDLESS, (("kind", (("make", ("kind",)),)),)):
            self.assertIs(has_values(book, "num"), True)

    def test_kinds_that_have(self):
        self.assertIs(has_values(TREES, "tree"), True)
        self.assertIs(has_values(ENDLESS, "tree"), True)
        for kind, makes in LADDER:
            self.assertIs(has_values(LADDER, kind), True)

    def test_a_kind_of_numbers_alone(self):
        self.assertIs(has_values((("kind", (("make", ("num", "num")),)),), "kind"), True)

    def test_a_kind_that_holds_itself_without_end(self):
        for fields in (("kind",), ("num", "kind"), ("kind", "num"), ("kind",) * 4):
            with self.subTest(fields=fields):
                self.assertIs(has_values((("kind", (("make", fields),)),), "kind"), False)

    def test_kinds_that_hold_one_another_without_end(self):
        self.assertIs(has_values(ENDLESS, "loop"), False)
        self.assertIs(has_values(ENDLESS, "ring"), False)

    def test_a_long_round_of_kinds(self):
        names = "abcdef"
        ring = tuple((name, (("m" + name, ("num", names[(at + 1) % 6])),)) for at, name in enumerate(names))
        for name in names:
            self.assertIs(has_values(ring, name), False)
        cut = ring[:5] + (("f", ring[5][1] + (("end", ()),)),)
        for name in names:
            self.assertIs(has_values(cut, name), True)

    def test_a_make_with_one_field_without_values_gives_none(self):
        for at in range(4):
            fields = tuple("loop" if place == at else "num" for place in range(4))
            book = (("kind", (("make", fields),)), ("loop", (("turn", ("loop",)),)))
            self.assertIs(has_values(book, "kind"), False)


class TestMakesOf(unittest.TestCase):
    def test_num_has_no_makes(self):
        for book in (TREES, ENDLESS, (("kind", (("num", ("num",)),)),)):
            self.assertEqual(makes_of(book, "num"), ())
            self.assertIs(type(makes_of(book, "num")), tuple)

    def test_all_makes_in_order(self):
        self.assertEqual(makes_of(TREES, "tree"), TREES[0][1])
        self.assertEqual(makes_of(LADDER, "fourth"), (("d", ("third", "first")), ("dd", ("top",))))
        self.assertEqual(makes_of(LADDER, "first"), (("a", ("num", "num")), ("aa", ())))

    def test_some_makes_come_and_some_do_not(self):
        self.assertEqual(makes_of(ENDLESS, "tree"),
                         (("node", ("tree", "num", "tree")), ("leaf", ()), ("stem", ("num", "tree"))))

    def test_a_kind_without_values_has_no_makes_that_come(self):
        self.assertEqual(makes_of(ENDLESS, "loop"), ())
        self.assertEqual(makes_of(ENDLESS, "ring"), ())

    def test_a_make_called_as_another_kind_is(self):
        book = (("one", (("two", ()), ("num", ("one",)))), ("two", (("one", ("num",)),)))
        self.assertEqual(makes_of(book, "one"), (("two", ()), ("num", ("one",))))
        self.assertEqual(makes_of(book, "two"), (("one", ("num",)),))

    def test_a_tuple_of_pairs(self):
        for book in (TREES, ENDLESS, LADDER):
            for kind, makes in book:
                answer = makes_of(book, kind)
                self.assertIs(type(answer), tuple)
                for make in answer:
                    self.assertIs(type(make), tuple)
                    self.assertIs(type(make[1]), tuple)
                    self.assertEqual(len(make), 2)


class TestPlainValue(unittest.TestCase):
    def test_num(self):
        for book in (TREES, ENDLESS, LADDER):
            self.assertEqual(plain_value(book, "num"), 0)
            self.assertIs(type(plain_value(book, "num")), int)

    def test_a_make_without_parts(self):
        self.assertEqual(plain_value(TREES, "tree"), ("leaf",))

    def test_parts_of_num(self):
        self.assertEqual(plain_value((("kind", (("make", ("num", "num", "num", "num")),)),), "kind"),
                         ("make", 0, 0, 0, 0))

    def test_the_first_make_of_the_round(self):
        book = (("kind", (("one", ("num",)), ("two", ()))), ("other", (("three", ()), ("four", ("num",)))))
        self.assertEqual(plain_value(book, "kind"), ("one", 0))
        self.assertEqual(plain_value(book, "other"), ("three",))

    def test_a_first_make_that_comes_but_is_late(self):
        book = (("kind", (("one", ("other",)), ("two", ("num",)))), ("other", (("three", ()),)))
        self.assertEqual(plain_value(book, "kind"), ("two", 0))
        self.assertEqual(plain_value((("tree", TREES[0][1][::-1]),), "tree"), ("leaf",))

    def test_a_kind_of_the_same_round_that_stands_ahead_is_no_help(self):
        book = (("ahead", (("a", ()),)), ("kind", (("one", ("ahead",)), ("two", ()))))
        self.assertEqual(plain_value(book, "kind"), ("two",))

    def test_a_late_first_make_of_the_second_round(self):
        book = (("kind", (("one", ("late",)), ("two", ("soon", "num")), ("three", ("soon",)))),
                ("late", (("l", ("soon",)),)),
                ("soon", (("s", ()),)))
        self.assertEqual(plain_value(book, "kind"), ("two", ("s",), 0))

    def test_a_first_make_that_never_comes(self):
        self.assertEqual(plain_value(ENDLESS, "tree"), ("leaf",))

    def test_later_rounds_and_parts_of_several_kinds(self):
        first = ("a", 0, 0)
        second = ("b", first, 0, first)
        third = ("c", 0, second, first, second)
        fourth = ("d", third, first)
        self.assertEqual(plain_value(LADDER, "first"), first)
        self.assertEqual(plain_value(LADDER, "second"), second)
        self.assertEqual(plain_value(LADDER, "third"), third)
        self.assertEqual(plain_value(LADDER, "fourth"), fourth)
        self.assertEqual(plain_value(LADDER, "top"), ("t", fourth, 0))

    def test_the_order_of_kinds_does_not_count(self):
        turned = tuple(reversed(LADDER))
        for kind, makes in LADDER:
            self.assertEqual(plain_value(turned, kind), plain_value(LADDER, kind))

    def test_six_rounds_with_the_most_parts(self):
        names = "fedcba"
        book = tuple((name, (("m" + name, (names[at + 1],) * 4 if at < 5 else ("num",) * 4),))
                     for at, name in enumerate(names))
        value = 0
        for name in "abcdef":
            value = ("m" + name,) + (value,) * 4
            self.assertEqual(plain_value(book, name), value)


class TestChanceBooks(unittest.TestCase):
    def test_against_depths(self):
        seen = set()
        for book in chance_books(600):
            self.assertTrue(is_book(book))
            found = depths(book)
            for kind, makes in book:
                seen.add(found.get(kind))
                coming = tuple(make for make in makes if all(field in found for field in make[1]))
                self.assertIs(has_values(book, kind), kind in found)
                self.assertEqual(makes_of(book, kind), coming)
                if kind in found:
                    self.assertEqual(plain_value(book, kind), expected_plain(book, kind))
        self.assertLessEqual({None, 1, 2, 3, 4}, seen)


class TestQuestions(unittest.TestCase):
    def test_a_book_is_not_changed_and_answers_stay(self):
        for book in (TREES, ENDLESS, LADDER):
            copied = copy.deepcopy(book)
            for kind, makes in book:
                for question in (has_values, makes_of) + ((plain_value,) if has_values(book, kind) else ()):
                    self.assertEqual(question(copied, kind), question(book, kind))
                    self.assertEqual(question(copied, kind), question(copied, kind))
            self.assertEqual(copied, book)


if __name__ == "__main__":
    unittest.main()
