"""[1.1]: what a book is, and what is told of each of its makes."""

import copy
import unittest

from shapecourt.kinds import fields_of, is_book, kind_of

TREES = (("tree", (("leaf", ()), ("node", ("tree", "num", "tree")))),)
ENDLESS = (
    ("tree", (("leaf", ()), ("node", ("tree", "num", "tree")), ("knot", ("loop", "num")))),
    ("loop", (("turn", ("loop",)), ("twist", ("ring", "num")))),
    ("ring", (("loop", ("loop", "ring", "num", "tree")),)),
)
WORDS = ("aa", "bb", "cc", "dd", "ee", "ff", "gg", "hh")


def book_of_kinds(count):
    return tuple((word, ((word, ()),)) for word in WORDS[:count])


def book_of_makes(count):
    return (("kind", tuple((word, ()) for word in WORDS[:count])),)


def book_of_fields(count, field="num"):
    return (("kind", (("make", (field,) * count),)),)


def fullest_book():
    kinds = "abcdef"
    return tuple((kind, tuple((kind + make, tuple("fedc")) for make in kinds)) for kind in kinds)


def nested(deep, inner=()):
    """So many tuples, one within another, around inner."""
    thing = inner
    for number in range(deep):
        thing = (thing,)
    return thing


def set_at(thing, path, part):
    """The tuple thing with another part at the path of places."""
    if not path:
        return part
    at = path[0]
    return thing[:at] + (set_at(thing[at], path[1:], part),) + thing[at + 1:]


class BookTest(unittest.TestCase):
    def assert_book(self, thing):
        self.assertIs(is_book(thing), True, thing)

    def assert_no_book(self, thing):
        self.assertIs(is_book(thing), False, thing)


class TestBounds(BookTest):
    def test_plain_books(self):
        self.assert_book(TREES)
        self.assert_book(ENDLESS)

    def test_one_to_six_kinds(self):
        for count in range(1, 7):
            self.assert_book(book_of_kinds(count))

    def test_no_kind_and_seven_kinds(self):
        for count in (0, 7, 8):
            self.assert_no_book(book_of_kinds(count))

    def test_one_to_six_makes(self):
        for count in range(1, 7):
            self.assert_book(book_of_makes(count))

    def test_no_make_and_seven_makes(self):
        for count in (0, 7, 8):
            self.assert_no_book(book_of_makes(count))

    def test_no_make_and_seven_makes_of_a_later_kind(self):
        for count in (0, 7):
            self.assert_no_book((("first", (("one", ()),)),) + book_of_makes(count))

    def test_no_field_to_four_fields(self):
        for count in range(0, 5):
            self.assert_book(book_of_fields(count))
            self.assert_book(book_of_fields(count, "kind"))

    def test_five_fields(self):
        for count in (5, 6):
            self.assert_no_book(book_of_fields(count))
            self.assert_no_book(book_of_fields(count, "kind"))

    def test_all_bounds_at_once(self):
        self.assert_book(fullest_book())

    def test_more_than_six_makes_in_all_the_book(self):
        self.assert_book(book_of_makes(6) + (("other", (("xx", ()), ("yy", ()))),))


class TestNames(BookTest):
    def test_names_of_one_and_of_eight_letters(self):
        self.assert_book((("k", (("m", ("k", "num")),)),))
        self.assert_book((("abcdefgh", (("ijklmnop", ("abcdefgh", "num")),)),))

    def test_names_that_are_no_words(self):
        for name in ("", "abcdefghi", "A", "aB", "a1", "a b", "a\n", "\u00e9", "a_b", "_", 0, 7, -1, 10 ** 59,
                     (), ("a",), ("a", "b")):
            with self.subTest(name=name):
                self.assert_no_book(((name, (("leaf", ()),)),))
                self.assert_no_book((("kind", ((name, ()),)),))
                self.assert_no_book((("kind", (("leaf", (name,)),)),))
                self.assert_no_book(((name, (("leaf", (name,)),)),))
                self.assert_no_book((("kind", (("leaf", ()), (name, ()))), ))
                self.assert_no_book((("kind", (("leaf", ("num", "kind", name)),)),))

    def test_a_kind_called_num(self):
        self.assert_no_book((("num", (("leaf", ()),)),))
        self.assert_no_book((("kind", (("leaf", ()),)), ("num", (("node", ()),))))
        self.assert_no_book((("num", (("leaf", ("num",)),)), ("kind", (("node", ("num",)),))))

    def test_a_kinds_name_twice(self):
        self.assert_no_book((("kind", (("leaf", ()),)), ("kind", (("node", ()),))))
        self.assert_no_book((("kind", (("leaf", ()),)), ("other", (("stem", ()),)), ("kind", (("node", ()),))))

    def test_a_makes_name_twice_in_one_kind(self):
        self.assert_no_book((("kind", (("leaf", ()), ("leaf", ()))),))
        self.assert_no_book((("kind", (("leaf", ()), ("node", ()), ("leaf", ("num",)))),))

    def test_a_makes_name_twice_in_two_kinds(self):
        self.assert_no_book((("kind", (("leaf", ()),)), ("other", (("leaf", ()),))))
        self.assert_no_book((("kind", (("node", ()), ("leaf", ("num",)))), ("more", (("stem", ()),)),
                             ("other", (("root", ()), ("leaf", ("kind",))))))

    def test_a_make_called_as_a_kind_is(self):
        self.assert_book((("kind", (("kind", ()),)),))
        self.assert_book((("kind", (("other", ()),)), ("other", (("kind", ()),))))
        self.assert_book((("kind", (("kind", ("kind",)), ("other", ()))), ("other", (("last", ("kind",)),))))

    def test_a_make_called_num(self):
        self.assert_book((("kind", (("num", ("num",)),)),))


class TestFields(BookTest):
    def test_num_and_kinds_at_each_place(self):
        self.assert_book((("kind", (("leaf", ("num",)), ("node", ("kind", "num", "other", "num")))),
                          ("other", (("stem", ("kind",)),))))

    def test_a_kind_that_stands_further_behind(self):
        self.assert_book((("kind", (("leaf", ("last",)),)), ("other", (("node", ("last",)),)),
                          ("last", (("stem", ()),))))

    def test_a_field_that_is_no_kind(self):
        for at in range(4):
            fields = set_at(("num", "kind", "num", "kind"), (at,), "other")
            self.assert_no_book((("kind", (("leaf", fields),)),))
            self.assert_no_book((("kind", (("leaf", ()), ("node", fields))),))
            self.assert_no_book((("kind", (("leaf", ()),)), ("last", (("node", fields),))))

    def test_a_field_that_is_a_make_alone(self):
        self.assert_no_book((("kind", (("leaf", ()), ("node", ("leaf",)))),))
        self.assert_no_book((("kind", (("leaf", ("leaf",)),)),))


class TestForms(BookTest):
    def test_kinds_and_makes_that_are_no_pairs(self):
        for extra in ((), ("leaf",), ("leaf", (), ()), ("leaf", (), "num"), ("leaf", (), 0)):
            self.assert_no_book((("kind", (extra,)),))
            self.assert_no_book((("kind", (("node", ()), extra)),))
        for extra in ((), ("kind",), ("kind", (("leaf", ()),), ()), ("kind", (("leaf", ()),), "kind")):
            self.assert_no_book((extra,))
            self.assert_no_book((("other", (("node", ()),)), extra))

    def test_names_and_makes_exchanged(self):
        self.assert_no_book((((("leaf", ()),), "kind"),))
        self.assert_no_book((("kind", (((), "leaf"),)),))

    def test_texts_and_numbers_in_the_place_of_tuples(self):
        book = (("kk", (("mm", ("kk", "num")), ("nn", ()))), ("ll", (("oo", ("num",)),)))
        self.assert_book(book)
        places = ((), (0,), (1,), (0, 1), (1, 1), (0, 1, 0), (0, 1, 1), (1, 1, 0), (0, 1, 0, 1), (0, 1, 1, 1),
                  (1, 1, 0, 1))
        for path in places:
            for part in ("", "k", "kk", "mm", "num", "ab", "abc", "abcd", 0, 1, 2, -1, 10 ** 59):
                with self.subTest(path=path, part=part):
                    self.assert_no_book(set_at(book, path, part))

    def test_tuples_in_the_place_of_names(self):
        book = (("kk", (("mm", ("kk", "num")), ("nn", ()))), ("ll", (("oo", ("num",)),)))
        places = ((0, 0), (1, 0), (0, 1, 0, 0), (0, 1, 1, 0), (1, 1, 0, 0), (0, 1, 0, 1, 0), (0, 1, 0, 1, 1),
                  (1, 1, 0, 1, 0))
        for path in places:
            for part in ((), ("a",), ("kk",), ("kk", "num"), ("kk", ()), book, 0, 3):
                with self.subTest(path=path, part=part):
                    self.assert_no_book(set_at(book, path, part))

    def test_a_book_within_a_tuple_and_its_kinds_alone(self):
        self.assert_no_book((TREES,))
        self.assert_no_book(TREES[0])
        self.assert_no_book(TREES[0][1])
        self.assert_no_book(())

    def test_things_forty_tuples_deep(self):
        for thing in (nested(39), nested(40, "leaf"), nested(40, 0)):
            self.assert_no_book(thing)
        deep = nested(34)
        for path in ((0,), (0, 0), (0, 1), (0, 1, 0), (0, 1, 0, 0), (0, 1, 1, 1), (0, 1, 1, 1, 0)):
            self.assert_no_book(set_at(TREES, path, deep))
        pairs = ()
        for number in range(19):
            pairs = (("a", pairs),)
        self.assert_no_book(pairs)

    def test_deep_things_that_are_equal(self):
        self.assert_no_book(((nested(35), (("leaf", ()),)), (nested(35), (("node", ()),))))
        self.assert_no_book((("kind", ((nested(34), ()), (nested(34), ()))),))
        self.assert_no_book((("kind", (("leaf", (nested(34), nested(34))),)),))

    def test_things_of_two_thousand_parts(self):
        kind = ("kind", (("leaf", ()),))
        self.assert_no_book((kind,) * 500)
        self.assert_no_book((("kind", (("leaf", ()),) * 600),))
        self.assert_no_book((("kind", (("leaf", ("num",) * 1990),)),))
        self.assert_no_book(("a",) * 1999)
        self.assert_no_book((0,) * 1999)
        self.assert_no_book(((),) * 1999)


class TestQuestions(BookTest):
    def test_a_book_is_not_changed(self):
        book = copy.deepcopy(ENDLESS)
        is_book(book)
        for name in ("leaf", "twist", "loop"):
            fields_of(book, name)
            kind_of(book, name)
        self.assertEqual(book, ENDLESS)

    def test_the_same_question_has_the_same_answer(self):
        for thing in (ENDLESS, TREES, (), fullest_book(), book_of_kinds(7)):
            self.assertIs(is_book(thing), is_book(thing))


class TestMakes(unittest.TestCase):
    def test_each_make_of_a_book(self):
        for book in (TREES, ENDLESS, fullest_book(), book_of_kinds(6), book_of_makes(6), book_of_fields(4)):
            for kind, makes in book:
                for name, fields in makes:
                    with self.subTest(name=name):
                        self.assertEqual(fields_of(book, name), fields)
                        self.assertIs(type(fields_of(book, name)), tuple)
                        self.assertEqual(kind_of(book, name), kind)

    def test_a_make_without_fields(self):
        self.assertEqual(fields_of(TREES, "leaf"), ())
        self.assertEqual(kind_of(TREES, "leaf"), "tree")

    def test_a_make_with_fields(self):
        self.assertEqual(fields_of(TREES, "node"), ("tree", "num", "tree"))
        self.assertEqual(kind_of(TREES, "node"), "tree")

    def test_makes_that_do_not_come(self):
        self.assertEqual(fields_of(ENDLESS, "knot"), ("loop", "num"))
        self.assertEqual(kind_of(ENDLESS, "knot"), "tree")
        self.assertEqual(fields_of(ENDLESS, "turn"), ("loop",))
        self.assertEqual(kind_of(ENDLESS, "turn"), "loop")
        self.assertEqual(fields_of(ENDLESS, "twist"), ("ring", "num"))
        self.assertEqual(kind_of(ENDLESS, "twist"), "loop")

    def test_a_make_called_as_another_kind_is(self):
        self.assertEqual(fields_of(ENDLESS, "loop"), ("loop", "ring", "num", "tree"))
        self.assertEqual(kind_of(ENDLESS, "loop"), "ring")

    def test_a_make_called_num(self):
        book = (("kind", (("leaf", ()), ("num", ("num", "kind")))),)
        self.assertEqual(fields_of(book, "num"), ("num", "kind"))
        self.assertEqual(kind_of(book, "num"), "kind")


if __name__ == "__main__":
    unittest.main()
