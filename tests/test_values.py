"""[1.2]: what a value is, how deep it is."""

import copy
import random
import unittest

from samples import HUGE, LEAF, MIXED, TREES, chance_value, nested_value
from shapecourt.values import depth_of, is_value

NO_NUMBERS = (True, False, None, "", "0", "leaf", "num", (), (0,), ("leaf",), ("num", 0), ((),))


class ValueTest(unittest.TestCase):
    def assert_value(self, book, kind, thing):
        self.assertIs(is_value(book, kind, thing), True, thing)

    def assert_none(self, book, kind, thing):
        self.assertIs(is_value(book, kind, thing), False, thing)


class TestNumbers(ValueTest):
    def test_whole_numbers(self):
        for number in (0, 1, -1, 7, -300, HUGE, -HUGE):
            self.assert_value(TREES, "num", number)
            self.assert_none(TREES, "tree", number)

    def test_other_things(self):
        for thing in NO_NUMBERS:
            with self.subTest(thing=thing):
                self.assert_none(TREES, "num", thing)


class TestMakes(ValueTest):
    def test_without_parts(self):
        self.assert_value(TREES, "tree", LEAF)
        self.assert_value(MIXED, "pick", ("red",))
        self.assert_value(MIXED, "pick", ("blue",))

    def test_with_parts_of_several_kinds(self):
        self.assert_value(TREES, "tree", ("node", LEAF, 3, ("node", LEAF, -HUGE, LEAF)))
        self.assert_value(MIXED, "pick", ("grey", 0))
        self.assert_value(MIXED, "pair", ("both", ("tip", ("case", 1, 2), 3), ("case", 0, 0), ("red",), HUGE))

    def test_a_make_of_another_kind(self):
        self.assert_none(MIXED, "pick", LEAF)
        self.assert_none(MIXED, "tree", ("red",))
        self.assert_none(MIXED, "pair", ("both", ("red",), ("case", 0, 0), ("red",), 0))
        self.assert_none(MIXED, "pair", ("both", LEAF, ("case", 0, 0), LEAF, 0))

    def test_a_make_of_no_kind(self):
        for name in ("stem", "tree", "num", "", "Leaf", "leaf ", 0, None, True, (), ("leaf",)):
            with self.subTest(name=name):
                self.assert_none(TREES, "tree", (name,))
                self.assert_none(TREES, "tree", (name, LEAF, 0, LEAF))
                self.assert_none(TREES, "tree", ("node", LEAF, 0, (name,)))

    def test_a_make_that_does_not_come(self):
        turn = ("turn", ("turn", ("turn", (), 0), 0), 0)
        for inner in (turn, ("turn",), LEAF, 0, None, ("turn", 0), ("turn", None, 0), ("turn", LEAF, 0)):
            self.assert_none(MIXED, "tree", ("knot", inner))
            self.assert_none(MIXED, "loop", inner)
        self.assert_none(MIXED, "tree", ("knot",))
        self.assert_none(MIXED, "box", ("void", ("turn", 0, 0), ("case", 0, 0)))

    def test_a_make_called_as_a_kind_or_num(self):
        book = (("one", (("num", ("num", "two")), ("two", ()))), ("two", (("one", ("num",)),)))
        self.assert_value(book, "one", ("num", 4, ("one", 5)))
        self.assert_value(book, "one", ("two",))
        self.assert_none(book, "two", ("two",))
        self.assert_none(book, "num", ("num", 4, ("one", 5)))

    def test_a_part_more_or_fewer(self):
        for thing in (("leaf", 0), ("leaf", ()), ("leaf", LEAF), ("node",), ("node", LEAF), ("node", LEAF, 0),
                      ("node", LEAF, 0, LEAF, LEAF), ("node", LEAF, 0, LEAF, 0), ("node", LEAF, 0, LEAF, None)):
            with self.subTest(thing=thing):
                self.assert_none(TREES, "tree", thing)
                self.assert_none(TREES, "tree", ("node", thing, 0, LEAF))
                self.assert_none(TREES, "tree", ("node", LEAF, 0, ("node", LEAF, 1, thing)))

    def test_parts_exchanged(self):
        self.assert_none(TREES, "tree", ("node", 0, LEAF, LEAF))
        self.assert_none(TREES, "tree", (LEAF, "node", 0, LEAF))

    def test_other_things_in_the_place_of_a_part(self):
        for thing in NO_NUMBERS:
            with self.subTest(thing=thing):
                self.assert_none(TREES, "tree", ("node", LEAF, thing, LEAF))
                self.assert_none(TREES, "tree", ("node", LEAF, 0, ("node", LEAF, thing, LEAF)))
        for thing in (0, 5, True, False, None, "", "leaf", "node", (), (LEAF,), (0,), (None,), (True,)):
            with self.subTest(thing=thing):
                self.assert_none(TREES, "tree", thing)
                self.assert_none(TREES, "tree", ("node", thing, 0, LEAF))
                self.assert_none(TREES, "tree", ("node", LEAF, 0, thing))
                self.assert_none(TREES, "tree", ("node", LEAF, 0, ("node", LEAF, 0, thing)))

    def test_another_thing_deep_within(self):
        for deep in (5, 29, 38):
            for end in (0, None, True, "leaf", (), ("node",)):
                thing = end
                for number in range(deep):
                    thing = ("node", LEAF, number, thing)
                self.assert_none(TREES, "tree", thing)

    def test_the_empty_tuple(self):
        for kind in ("tree", "loop", "box", "pair", "pick", "num"):
            self.assert_none(MIXED, kind, ())

    def test_deep_values(self):
        for deep in (1, 2, 29, 30, 31, 40, 300, 3000):
            self.assert_value(TREES, "tree", nested_value(deep))

    def test_values_by_chance_and_spoilt_ones(self):
        chance = random.Random(5)
        for number in range(300):
            kind = chance.choice(("tree", "box", "pair", "pick"))
            value = chance_value(chance, MIXED, kind, 4)
            self.assert_value(MIXED, kind, value)
            self.assert_none(MIXED, kind, value + (0,))
            self.assert_none(MIXED, kind, value[1:])
            for other in ("tree", "loop", "box", "pair", "pick", "num"):
                if other != kind:
                    self.assert_none(MIXED, other, value)


class TestDepth(unittest.TestCase):
    def test_numbers(self):
        for number in (0, 1, -1, HUGE):
            self.assertEqual(depth_of(number), 0)

    def test_makes_without_parts_and_of_numbers(self):
        self.assertEqual(depth_of(LEAF), 1)
        self.assertEqual(depth_of(("grey", 7)), 1)
        self.assertEqual(depth_of(("case", 7, 8)), 1)

    def test_the_deepest_part_counts(self):
        two = ("node", LEAF, 0, LEAF)
        self.assertEqual(depth_of(two), 2)
        self.assertEqual(depth_of(("node", two, 0, LEAF)), 3)
        self.assertEqual(depth_of(("node", LEAF, 0, two)), 3)
        self.assertEqual(depth_of(("node", ("node", two, 0, LEAF), 0, two)), 4)

    def test_deep_values(self):
        for deep in (1, 2, 29, 30, 31, 40, 300, 3000):
            self.assertEqual(depth_of(nested_value(deep)), deep)

    def test_by_chance(self):
        def expected(value):
            return 0 if isinstance(value, int) else 1 + max([expected(part) for part in value[1:]], default=0)

        chance = random.Random(6)
        for number in range(200):
            value = chance_value(chance, MIXED, "pair", 5)
            self.assertEqual(depth_of(value), expected(value))


class TestQuestions(unittest.TestCase):
    def test_nothing_is_changed(self):
        book, value = copy.deepcopy(MIXED), ("both", LEAF, ("case", 0, 1), ("red",), 5)
        told = copy.deepcopy(value)
        self.assertIs(is_value(book, "pair", told), is_value(book, "pair", told))
        self.assertEqual(depth_of(told), depth_of(told))
        self.assertEqual((book, told), (MIXED, value))


if __name__ == "__main__":
    unittest.main()
