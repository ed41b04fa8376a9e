"""[3.1]: what a shape is, what it holds."""

import copy
import random
import unittest

from samples import (ANY, HUGE, MIXED, NODE, TREES, bare_shape, held_shape, nested_shape, numbers_either)
from shapecourt.lines import lines_of
from shapecourt.shapes import holds_of, is_shape

LEAF = ("make", "leaf", ())
KINDS = ("num", "tree", "loop", "box", "pair", "pick")


def held(name, shape=ANY):
    return ("held", name, shape)


def either(*sides):
    return ("either", sides)


def node(left=ANY, number=ANY, right=ANY):
    return ("make", "node", (left, number, right))


class ShapeTest(unittest.TestCase):
    def assert_shape(self, kind, thing, book=MIXED):
        self.assertIs(is_shape(book, kind, thing), True, thing)

    def assert_none(self, kind, thing, book=MIXED):
        self.assertIs(is_shape(book, kind, thing), False, thing)


class TestAnyAndNum(ShapeTest):
    def test_any(self):
        for kind in KINDS:
            self.assert_shape(kind, ANY)

    def test_num(self):
        for low, high in ((None, None), (0, None), (None, 0), (0, 0), (-3, 5), (-HUGE, HUGE), (HUGE, HUGE),
                          (HUGE, None), (None, -HUGE), (-5, -5), (-5, -4)):
            self.assert_shape("num", ("num", low, high))

    def test_num_of_another_kind(self):
        for kind in KINDS[1:]:
            self.assert_none(kind, ("num", None, None))
            self.assert_none(kind, ("num", 0, 1))

    def test_low_above_high(self):
        for low, high in ((1, 0), (0, -1), (-4, -5), (HUGE, -HUGE), (HUGE, HUGE - 1)):
            self.assert_none("num", ("num", low, high))

    def test_no_bounds(self):
        for wrong in (True, False, "0", "", (), (0,), ("num", 0, 0)):
            with self.subTest(wrong=wrong):
                for other in (None, 0, 1, wrong):
                    self.assert_none("num", ("num", wrong, other))
                    self.assert_none("num", ("num", other, wrong))

    def test_other_forms(self):
        for thing in ((), ("any", 0), ("any", ()), ("num",), ("num", 0), ("num", 0, 1, 2), ("none",), ("Any",), ("",),
                      "any", 0, None, True, (("any",),), (None,), (0, 0, 1), ("held", "x"), ("held", "x", ANY, ANY),
                      ("make", "leaf"), ("make", "leaf", (), ()), ("either",), ("either", (ANY,), ())):
            with self.subTest(thing=thing):
                for kind in ("num", "tree"):
                    self.assert_none(kind, thing)
                    self.assert_none(kind, held("x", thing))
                    self.assert_none(kind, either(thing))
                    self.assert_none(kind, either(ANY, thing))
                self.assert_none("tree", node(thing))
                self.assert_none("tree", node(ANY, thing))


class TestMakes(ShapeTest):
    def test_makes_with_and_without_parts(self):
        self.assert_shape("tree", LEAF)
        self.assert_shape("tree", NODE)
        self.assert_shape("tree", node(LEAF, ("num", 0, 1), NODE))
        self.assert_shape("pair", ("make", "both", (LEAF, ("make", "case", (ANY, ANY)), ("make", "red", ()), ANY)))

    def test_makes_that_do_not_come(self):
        self.assert_shape("tree", ("make", "knot", (ANY,)))
        self.assert_shape("tree", ("make", "knot", (("make", "turn", (ANY, ("num", 3, 4))),)))
        self.assert_shape("loop", ("make", "turn", (ANY, ANY)))
        self.assert_shape("box", ("make", "void", (ANY, ("make", "case", (ANY, ANY)))))
        self.assert_none("tree", ("make", "knot", ()))
        self.assert_none("tree", ("make", "knot", (NODE,)))
        self.assert_none("tree", ("make", "turn", (ANY, ANY)))

    def test_a_make_of_another_kind(self):
        for kind in KINDS:
            if kind != "tree":
                self.assert_none(kind, LEAF)
                self.assert_none(kind, NODE)
        self.assert_none("tree", node(("make", "red", ())))
        self.assert_none("tree", node(ANY, LEAF, ANY))

    def test_a_make_of_no_kind(self):
        for name in ("stem", "", "tree", "num", "any", 0, None, True, (), ("leaf",), "Leaf"):
            with self.subTest(name=name):
                self.assert_none("tree", ("make", name, ()))
                self.assert_none("tree", node(("make", name, ())))

    def test_parts_more_or_fewer(self):
        for count in (0, 1, 2, 4, 5):
            self.assert_none("tree", ("make", "node", (ANY,) * count))
        self.assert_none("tree", ("make", "leaf", (ANY,)))
        self.assert_none("pair", ("make", "both", (ANY,) * 3))
        self.assert_none("pair", ("make", "both", (ANY,) * 5))

    def test_parts_of_wrong_kinds(self):
        self.assert_none("tree", node(("num", 0, 1)))
        self.assert_none("tree", node(ANY, ANY, ("num", 0, 1)))
        self.assert_none("tree", node(("num", 0, 1), LEAF, ANY))
        self.assert_none("pair", ("make", "both", (ANY, LEAF, ANY, ANY)))

    def test_shapes_that_are_no_tuple(self):
        for wrong in ("", "abc", 0, 3, None, True):
            with self.subTest(wrong=wrong):
                self.assert_none("tree", ("make", "leaf", wrong))
                self.assert_none("tree", ("make", "node", wrong))
                self.assert_none("tree", ("either", wrong))


class TestHeld(ShapeTest):
    def test_held_as_its_shape(self):
        self.assert_shape("num", held("x", ("num", 1, 2)))
        self.assert_none("tree", held("x", ("num", 1, 2)))
        self.assert_shape("tree", held("x", NODE))
        self.assert_none("num", held("x", NODE))

    def test_names_of_one_and_eight_letters(self):
        for name in ("x", "abcdefgh", "tree", "num", "any", "held", "is"):
            self.assert_shape("tree", held(name))

    def test_names_that_are_no_words(self):
        for name in ("", "abcdefghi", "X", "x1", "x y", "_", 0, 3, None, True, (), ("x",), ANY):
            with self.subTest(name=name):
                self.assert_none("tree", held(name))
                self.assert_none("num", held(name))
                self.assert_none("tree", node(held(name)))

    def test_makes_names(self):
        for kind, makes in MIXED:
            for name, fields in makes:
                self.assert_none("tree", held(name))
                self.assert_none("tree", node(ANY, held(name)))
        self.assert_none("kind", held("num"), (("kind", (("num", ()),)),))
        self.assert_none("kind", held("kind"), (("kind", (("kind", ()),)),))

    def test_held_twice(self):
        self.assert_none("tree", held("x", held("x")))
        self.assert_none("tree", held("x", held("y", held("x"))))
        self.assert_none("tree", held("x", node(held("x"))))
        self.assert_none("tree", held("x", node(ANY, ANY, node(ANY, held("x")))))
        self.assert_none("tree", node(held("x"), ANY, held("x")))
        self.assert_none("tree", node(held("x"), held("x"), ANY))
        self.assert_none("tree", node(node(ANY, held("x")), held("x"), ANY))
        self.assert_none("tree", held("x", either(held("x"), held("x"))))
        self.assert_none("tree", node(either(held("x"), held("x")), ANY, held("x")))
        self.assert_none("tree", node(either(held("x"), held("x")), ANY, either(held("x"))))
        self.assert_none("tree", ("make", "knot", (held("x", ("make", "turn", (held("x"), ANY))),)))
        self.assert_shape("tree", node(held("x", node(held("y"))), held("z"), held("a")))

    def test_one_side_that_holds_a_name_twice(self):
        self.assert_none("tree", either(node(held("x"), ANY, held("x")), node(held("x"))))
        self.assert_none("tree", either(held("x"), node(held("x"), ANY, held("x"))))
        self.assert_none("tree", either(held("x"), held("x", held("x"))))


class TestEither(ShapeTest):
    def test_one_to_four_sides(self):
        for count in range(1, 5):
            self.assert_shape("tree", ("either", (ANY,) * count))
            self.assert_shape("tree", ("either", (LEAF,) * count))

    def test_none_and_five_sides(self):
        for count in (0, 5, 6):
            self.assert_none("tree", ("either", (ANY,) * count))

    def test_one_side_of_another_kind(self):
        self.assert_shape("num", either(ANY, ("num", 0, 3), ("num", 3, None)))
        self.assert_none("tree", either(ANY, ("num", 0, 3)))
        self.assert_none("tree", either(("make", "red", ()), LEAF))
        self.assert_none("num", either(ANY, LEAF))

    def test_equal_names_on_several_sides(self):
        side = node(held("x"), held("y"))
        self.assert_shape("tree", either(side, side, side, side))
        self.assert_shape("tree", either(held("x", LEAF), node(held("x")), node(ANY, ANY, held("x")), held("x")))
        self.assert_shape("num", either(held("x", ("num", 1, 2)), held("x", ("num", 2, 3))))

    def test_names_in_another_order(self):
        self.assert_shape("tree", either(node(held("x"), ANY, held("y")), node(held("y"), ANY, held("x"))))
        self.assert_shape("tree", either(held("x", node(held("y"))), held("y", node(held("x")))))

    def test_not_on_all_sides(self):
        self.assert_none("tree", either(held("x"), ANY))
        self.assert_none("tree", either(ANY, held("x")))
        self.assert_none("tree", either(held("x"), held("y")))
        self.assert_none("tree", either(held("x"), held("x"), ANY))
        self.assert_none("tree", either(held("x"), held("x"), held("x", held("y"))))
        self.assert_none("tree", either(held("x", held("y")), held("x")))
        self.assert_none("tree", either(node(held("x"), held("y")), node(held("x"), held("z"))))

    def test_at_unlike_kinds(self):
        self.assert_none("tree", either(node(held("x")), node(ANY, held("x"))))
        self.assert_none("tree", either(held("x"), node(ANY, held("x"))))
        self.assert_none("tree", either(node(held("x"), held("y")), node(ANY, held("x"), held("y"))))
        self.assert_shape("tree", either(node(held("x"), held("y")), node(ANY, held("y"), held("x"))))
        self.assert_none("tree", either(node(held("x")), node(held("x")), ("make", "tip", (held("x"), ANY))))

    def test_eithers_within_eithers(self):
        self.assert_shape("tree", either(either(held("x"), held("x")), held("x")))
        self.assert_none("tree", either(either(held("x"), held("y")), held("x")))
        self.assert_none("tree", either(either(ANY, ANY), held("x")))


class TestBounds(ShapeTest):
    def test_twelve_and_thirteen_deep(self):
        for inner in (ANY, LEAF):
            self.assert_shape("tree", nested_shape(11, inner))
            self.assert_none("tree", nested_shape(12, inner))
        self.assert_shape("num", nested_shape(11, ("num", 0, 1)))
        self.assert_none("num", nested_shape(12, ("num", 0, 1)))
        self.assert_shape("tree", nested_shape(10, NODE))
        self.assert_none("tree", nested_shape(11, NODE))
        self.assert_shape("tree", nested_shape(10, either(ANY)))
        self.assert_none("tree", nested_shape(11, either(ANY)))

    def test_deep_makes_and_eithers(self):
        made, sides = NODE, either(ANY)
        for number in range(10):
            made, sides = node(ANY, ANY, made), either(sides)
        self.assert_shape("tree", made)
        self.assert_shape("tree", sides)
        self.assert_none("tree", node(made))
        self.assert_none("tree", either(sides))
        self.assert_none("tree", either(ANY, sides))
        self.assert_none("tree", ("make", "tip", (ANY, nested_shape(11, ("num", None, None)))))

    def test_too_deep_within(self):
        deep = nested_shape(12)
        for thing in (either(deep), held("z", deep), node(deep), node(ANY, deep)):
            self.assert_none("tree", thing)

    def test_thirty_nine_deep(self):
        thing = ANY
        for number in range(38):
            thing = held("x", thing)
        self.assert_none("tree", thing)
        for number in range(10):
            thing = either(thing)
        self.assert_none("tree", thing)

    def test_lines_of_eithers(self):
        for count in range(1, 25):
            self.assert_shape("num", numbers_either(count))
            self.assertEqual(len(lines_of(MIXED, "num", numbers_either(count), ())), count)
        for count in range(25, 40):
            self.assert_none("num", numbers_either(count))

    def test_lines_multiplied_in_a_make(self):
        for first, second, third in ((4, 3, 2), (2, 4, 3), (24, 1, 1), (1, 24, 1), (1, 1, 24), (6, 4, 1), (1, 3, 8)):
            self.assert_shape("tree", node(numbers_either(first), numbers_either(second), numbers_either(third)))
        for first, second, third in ((5, 5, 1), (25, 1, 1), (1, 25, 1), (1, 1, 25), (13, 2, 1), (24, 24, 24), (2, 2, 7),
                                     (3, 3, 3)):
            self.assert_none("tree", node(numbers_either(first), numbers_either(second), numbers_either(third)))

    def test_lines_of_a_shape_within_another(self):
        for around in (held_x, either_of, node_of):
            self.assert_shape("tree", around(numbers_either(24)))
            self.assert_none("tree", around(numbers_either(25)))
        self.assert_shape("tree", either(numbers_either(12), numbers_either(12)))
        self.assert_none("tree", either(numbers_either(12), numbers_either(13)))

    def test_lines_of_held_shapes_are_counted(self):
        self.assert_shape("tree", either(held("x", numbers_either(12)), held("x", numbers_either(12))))
        self.assert_none("tree", either(held("x", numbers_either(12)), held("x", numbers_either(13))))
        self.assert_shape("tree", node(held("x", numbers_either(6)), held("y", numbers_either(4))))
        self.assert_none("tree", node(held("x", numbers_either(5)), held("y", numbers_either(5))))

    def test_a_make_that_does_not_come_has_no_lines(self):
        knot = ("make", "knot", (ANY,))
        self.assertEqual(lines_of(MIXED, "tree", knot, ()), [])
        self.assert_shape("tree", either(numbers_either(24), knot, knot))
        self.assert_shape("tree", node(numbers_either(24), numbers_either(24), knot))
        self.assert_shape("tree", ("make", "knot", (numbers_either(24),)))
        self.assert_shape("loop", ("make", "turn", (numbers_either(24), numbers_either(24))))

    def test_too_many_lines_within_a_make_that_does_not_come(self):
        self.assert_none("tree", ("make", "knot", (numbers_either(25),)))
        self.assert_none("loop", ("make", "turn", (ANY, numbers_either(25))))
        many = node(numbers_either(5), numbers_either(5))
        self.assert_none("tree", many)
        knot = ("make", "knot", (ANY,))
        self.assert_none("tree", node(many, ANY, knot))
        self.assert_none("tree", node(knot, numbers_either(25), ANY))


def held_x(shape):
    return held("x", shape)


def either_of(shape):
    return either(shape)


def node_of(shape):
    return node(ANY, ANY, shape)


class TestHoldsOf(unittest.TestCase):
    def assert_holds(self, kind, shape, expected):
        answer = holds_of(MIXED, kind, shape)
        self.assertIs(type(answer), list)
        self.assertEqual(answer, expected)
        self.assertTrue(all(type(pair) is tuple for pair in answer))

    def test_nothing(self):
        for shape in (ANY, LEAF, NODE, either(ANY, NODE)):
            self.assert_holds("tree", shape, [])
        self.assert_holds("num", ("num", 0, 4), [])

    def test_the_kind_at_which_it_is_held(self):
        for kind in KINDS:
            self.assert_holds(kind, held("x"), [("x", kind)])
        both = ("make", "both", (held("d"), held("c"), held("b"), held("a")))
        self.assert_holds("pair", both, [("d", "tree"), ("c", "box"), ("b", "pick"), ("a", "num")])

    def test_a_held_name_ahead_of_those_within(self):
        shape = held("z", node(held("y", node(ANY, held("x"))), held("w"), held("v", LEAF)))
        self.assert_holds("tree", shape,
                          [("z", "tree"), ("y", "tree"), ("x", "num"), ("w", "num"), ("v", "tree")])

    def test_an_either_by_its_first_side(self):
        one = node(held("x"), held("n"), held("y"))
        other = node(held("y"), held("n"), held("x"))
        self.assert_holds("tree", either(one, other), [("x", "tree"), ("n", "num"), ("y", "tree")])
        self.assert_holds("tree", either(other, one), [("y", "tree"), ("n", "num"), ("x", "tree")])
        self.assert_holds("tree", node(either(other, one), held("a"), held("b")),
                          [("y", "tree"), ("n", "num"), ("x", "tree"), ("a", "num"), ("b", "tree")])

    def test_within_a_make_that_does_not_come(self):
        self.assert_holds("tree", ("make", "knot", (("make", "turn", (held("x"), held("y"))),)),
                          [("x", "loop"), ("y", "num")])

    def test_the_list_is_the_askers_own(self):
        shape = held("x", node(held("y")))
        first = holds_of(MIXED, "tree", shape)
        first.append(("z", "num"))
        self.assertEqual(holds_of(MIXED, "tree", shape), [("x", "tree"), ("y", "tree")])


class TestByChance(unittest.TestCase):
    def counted(self, book, shape):
        """How many lines a shape has, by its own count."""
        if shape[0] in ("any", "num"):
            return 1
        if shape[0] == "held":
            return self.counted(book, shape[2])
        if shape[0] == "either":
            return sum(self.counted(book, side) for side in shape[1])
        count = 0 if shape[1] in ("knot", "turn", "void") else 1
        for part in shape[2]:
            count *= self.counted(book, part)
        return count

    def most_within(self, book, shape):
        """The greatest count of lines of a shape and of each within it."""
        within = {"make": shape[2:], "held": (shape[2:],), "either": shape[1:]}.get(shape[0], ((),))[0]
        return max([self.counted(book, shape)] + [self.most_within(book, part) for part in within])

    def test_counts_of_lines(self):
        chance = random.Random(8)
        seen = set()
        for number in range(1500):
            kind = chance.choice(KINDS)
            shape = bare_shape(chance, MIXED, kind, 5)
            few = self.most_within(MIXED, shape) <= 24
            seen.add(few)
            self.assertIs(is_shape(MIXED, kind, shape), few)
            if few:
                self.assertEqual(len(lines_of(MIXED, kind, shape, ())), self.counted(MIXED, shape))
        self.assertEqual(seen, {True, False})

    def test_held_names(self):
        chance = random.Random(9)
        for number in range(300):
            shape = held_shape(chance, MIXED, "pair", 4, list("stuvwxyz"))
            if is_shape(MIXED, "pair", shape):
                held_there = holds_of(MIXED, "pair", shape)
                for tests, places in lines_of(MIXED, "pair", shape, ()):
                    self.assertEqual([name for name, spot in places], [name for name, kind in held_there])


class TestQuestions(unittest.TestCase):
    def test_nothing_is_changed(self):
        shape = either(node(held("x"), numbers_either(3)), held("x", LEAF))
        book, told = copy.deepcopy(TREES), copy.deepcopy(shape)
        for question in (is_shape, holds_of):
            self.assertEqual(question(book, "tree", told), question(book, "tree", told))
        self.assertEqual((book, told), (TREES, shape))


if __name__ == "__main__":
    unittest.main()
