"""[3.2], [3.3], [4.4] of lines: tests, their contrary, the lines of shapes, the values they fit."""

import copy
import random
import unittest

from samples import ANY, HUGE, LEAF, MIXED, NODE, TREES, bare_shape, chance_value, held_shape, seen_by
from shapecourt.lines import contrary, fits, holds, lines_of
from shapecourt.shapes import is_shape
from shapecourt.spots import is_spot, kind_at, part_at

L, M, R = ("node", 0), ("node", 1), ("node", 2)
LEAFED = ("make", "leaf", ())


def held(name, shape=ANY):
    return ("held", name, shape)


def node(left=ANY, number=ANY, right=ANY):
    return ("make", "node", (left, number, right))


class TestLinesOf(unittest.TestCase):
    def assert_lines(self, kind, shape, expected, spot=(), book=MIXED):
        answer = lines_of(book, kind, shape, spot)
        self.assertIs(type(answer), list)
        self.assertEqual(answer, expected)
        for line in answer:
            self.assertEqual([type(line), type(line[0]), type(line[1])], [tuple] * 3)

    def test_any(self):
        for kind, spot in (("tree", ()), ("num", (M,)), ("tree", (L, R))):
            self.assert_lines(kind, ANY, [((), ())], spot)

    def test_num(self):
        for spot in ((), (M,), (L, R, M)):
            self.assert_lines("num", ("num", 3, 5), [((("most", None, spot, -3), ("most", spot, None, 5)), ())], spot)
            self.assert_lines("num", ("num", 3, None), [((("most", None, spot, -3),), ())], spot)
            self.assert_lines("num", ("num", None, 5), [((("most", spot, None, 5),), ())], spot)
            self.assert_lines("num", ("num", None, None), [((), ())], spot)
            self.assert_lines("num", ("num", -HUGE, HUGE),
                              [((("most", None, spot, HUGE), ("most", spot, None, HUGE)), ())], spot)
            self.assert_lines("num", ("num", 0, 0), [((("most", None, spot, 0), ("most", spot, None, 0)), ())], spot)

    def test_a_make(self):
        for spot in ((), (L,), (L, R)):
            self.assert_lines("tree", LEAFED, [((("is", spot, "leaf"),), ())], spot)
            self.assert_lines("tree", NODE, [((("is", spot, "node"),), ())], spot)
            shape = node(LEAFED, ("num", 1, 2), NODE)
            tests = (("is", spot, "node"), ("is", spot + (L,), "leaf"), ("most", None, spot + (M,), -1),
                     ("most", spot + (M,), None, 2), ("is", spot + (R,), "node"))
            self.assert_lines("tree", shape, [(tests, ())], spot)

    def test_a_make_that_does_not_come(self):
        for shape in (("make", "knot", (ANY,)), ("make", "knot", (("make", "turn", (held("x"), ANY)),)),
                      node(LEAFED, ANY, ("make", "knot", (ANY,))), held("x", ("make", "knot", (ANY,))),
                      node(("make", "knot", (ANY,))), ("either", (("make", "knot", (ANY,)),))):
            self.assert_lines("tree", shape, [])
        self.assert_lines("loop", ("make", "turn", (ANY, ANY)), [])
        self.assert_lines("box", ("make", "void", (ANY, ANY)), [])
        self.assert_lines("tree", ("either", (("make", "knot", (ANY,)), LEAFED)), [((("is", (), "leaf"),), ())])

    def test_the_only_make_that_comes(self):
        self.assert_lines("box", ("make", "case", (ANY, ANY)), [((), ())])
        self.assert_lines("box", ("make", "case", (("num", 0, None), held("x"))),
                          [((("most", None, (("case", 0),), 0),), (("x", (("case", 1),)),))])
        self.assert_lines("pair", ("make", "both", (LEAFED, ANY, ANY, ANY)), [((("is", (("both", 0),), "leaf"),), ())])
        tip = ("make", "tip", (("make", "case", (ANY, ("num", None, 4))), ANY))
        self.assert_lines("tree", tip, [((("is", (L,), "tip"), ("most", (L, ("tip", 0), ("case", 1)), None, 4)), ())],
                          (L,))

    def test_held(self):
        self.assert_lines("tree", held("x"), [((), (("x", ()),))])
        self.assert_lines("num", held("x", ("num", 1, None)), [((("most", None, (M,), -1),), (("x", (M,)),))], (M,))
        self.assert_lines("tree", held("x", held("y", node(held("z"), held("a"), LEAFED))),
                          [((("is", (L,), "node"), ("is", (L, R), "leaf")),
                            (("x", (L,)), ("y", (L,)), ("z", (L, L)), ("a", (L, M))))], (L,))

    def test_either(self):
        shape = ("either", (LEAFED, node(ANY, ("num", 0, None)), ANY, LEAFED))
        self.assert_lines("tree", shape, [((("is", (), "leaf"),), ()),
                                          ((("is", (), "node"), ("most", None, (M,), 0)), ()),
                                          ((), ()), ((("is", (), "leaf"),), ())])

    def test_holds_in_the_order_of_the_side_taken(self):
        shape = ("either", (node(held("x"), ANY, held("y")), node(held("y"), ANY, held("x"))))
        tests = (("is", (), "node"),)
        self.assert_lines("tree", shape, [(tests, (("x", (L,)), ("y", (R,)))), (tests, (("y", (L,)), ("x", (R,))))])
        self.assert_lines("tree", held("z", shape), [(tests, (("z", ()), ("x", (L,)), ("y", (R,)))),
                                                     (tests, (("z", ()), ("y", (L,)), ("x", (R,))))])

    def test_the_first_parts_choice_changes_slowest(self):
        one = ("either", (held("a", LEAFED), held("a", NODE)))
        two = ("either", (held("b", ("num", 0, None)), held("b", ("num", None, 1)), held("b")))
        three = ("either", (held("c", NODE), held("c", LEAFED)))
        expected = []
        for left in ("leaf", "node"):
            for number in ((("most", None, (M,), 0),), (("most", (M,), None, 1),), ()):
                for right in ("node", "leaf"):
                    tests = (("is", (), "node"), ("is", (L,), left)) + number + (("is", (R,), right),)
                    expected.append((tests, (("a", (L,)), ("b", (M,)), ("c", (R,)))))
        self.assert_lines("tree", node(one, two, three), expected)

    def test_equal_sides_have_a_line_each(self):
        self.assert_lines("tree", ("either", (ANY, ANY)), [((), ()), ((), ())])

    def test_the_list_is_the_askers_own(self):
        for shape in (ANY, NODE, held("x"), ("either", (ANY, LEAFED)), ("make", "knot", (ANY,))):
            first = lines_of(MIXED, "tree", shape, ())
            kept = list(first)
            first.append("more")
            self.assertEqual(lines_of(MIXED, "tree", shape, ()), kept)

    def test_nothing_is_changed(self):
        shape = ("either", (node(held("x"), ("num", 0, 3)), held("x", LEAFED)))
        book, told = copy.deepcopy(TREES), copy.deepcopy(shape)
        self.assertEqual(lines_of(book, "tree", told, (L,)), lines_of(book, "tree", told, (L,)))
        self.assertEqual((book, told), (TREES, shape))


class TestHolds(unittest.TestCase):
    VALUE = ("node", ("node", LEAF, -4, ("tip", ("case", 8, HUGE), 9)), 2, LEAF)
    X, Y = (L, R, ("tip", 0), ("case", 0)), (L, R, ("tip", 0), ("case", 1))

    def assert_holds(self, value, test, expected):
        self.assertIs(holds(value, test), expected, test)

    def test_is(self):
        for spot, make in (((), "node"), ((L,), "node"), ((R,), "leaf"), ((L, L), "leaf"), ((L, R), "tip"),
                           ((L, R, ("tip", 0)), "case")):
            for name in ("node", "leaf", "tip", "case", "knot", "red"):
                self.assert_holds(self.VALUE, ("is", spot, name), name == make)

    def test_is_at_a_spot_that_the_value_has_not(self):
        for spot in ((R, L), (("tip", 0),), (L, L, R), (R, L, L)):
            for name in ("node", "leaf", "tip", "case"):
                self.assert_holds(self.VALUE, ("is", spot, name), False)

    def test_is_at_a_number(self):
        for spot in ((M,), (L, M), self.X):
            for name in ("node", "leaf", "num"):
                self.assert_holds(self.VALUE, ("is", spot, name), False)
        self.assert_holds(0, ("is", (), "leaf"), False)

    def test_most_with_none_for_one(self):
        for d in (-5, -4, -3, 0, 1, 2, 3, HUGE, -HUGE):
            self.assert_holds(self.VALUE, ("most", (M,), None, d), 2 <= d)
            self.assert_holds(self.VALUE, ("most", None, (M,), d), 0 <= 2 + d)
            self.assert_holds(self.VALUE, ("most", (L, M), None, d), -4 <= d)
            self.assert_holds(self.VALUE, ("most", None, (L, M), d), 0 <= -4 + d)
            self.assert_holds(self.VALUE, ("most", None, self.Y, d), 0 <= HUGE + d)
            self.assert_holds(self.VALUE, ("most", self.Y, None, d), HUGE <= d)
            self.assert_holds(d, ("most", (), None, 0), d <= 0)
            self.assert_holds(d, ("most", None, (), 0), 0 <= d)

    def test_most_with_two_spots(self):
        for d in (-13, -12, -11, -6, -5, 5, 6, 7, 11, 12, 13, HUGE, -HUGE):
            self.assert_holds(self.VALUE, ("most", (M,), (L, M), d), 2 <= -4 + d)
            self.assert_holds(self.VALUE, ("most", (L, M), (M,), d), -4 <= 2 + d)
            self.assert_holds(self.VALUE, ("most", self.X, (L, M), d), 8 <= -4 + d)
            self.assert_holds(self.VALUE, ("most", (L, M), self.X, d), -4 <= 8 + d)
            self.assert_holds(self.VALUE, ("most", (M,), (M,), d), 0 <= d)

    def test_most_of_huge_numbers(self):
        for d, expected in ((8 - HUGE, True), (7 - HUGE, False)):
            self.assert_holds(self.VALUE, ("most", self.X, self.Y, d), expected)
        for d, expected in ((HUGE - 8, True), (HUGE - 9, False)):
            self.assert_holds(self.VALUE, ("most", self.Y, self.X, d), expected)

    def test_most_where_no_number_is(self):
        missing = ((), (R,), (L, R), (R, M), (("tip", 1),), (M, M), (L, R, ("tip", 0)))
        for spot in missing:
            for d in (HUGE, 0, -HUGE):
                for p, q in ((spot, None), (None, spot), (spot, (M,)), ((M,), spot), (spot, spot)):
                    self.assert_holds(self.VALUE, ("most", p, q, d), False)
                    self.assert_holds(self.VALUE, contrary(("most", p, q, d)), False)

    def test_contrary(self):
        self.assertEqual(contrary(("most", (M,), None, 4)), ("most", None, (M,), -5))
        self.assertEqual(contrary(("most", None, (M,), -5)), ("most", (M,), None, 4))
        self.assertEqual(contrary(("most", (M,), (L, M), 0)), ("most", (L, M), (M,), -1))
        self.assertEqual(contrary(("most", (M,), (L, M), HUGE)), ("most", (L, M), (M,), -HUGE - 1))
        self.assertIs(type(contrary(("most", (M,), None, 4))), tuple)

    def test_just_one_of_a_test_and_its_contrary(self):
        for d in (-13, -12, -7, -6, -5, -3, -2, -1, 0, 1, 2, 5, 6, 7, 12, HUGE, HUGE - 9, HUGE - 8, -HUGE):
            for p, q in (((M,), None), (None, (M,)), ((M,), (L, M)), (self.X, self.Y), (self.Y, self.X), ((M,), (M,))):
                test = ("most", p, q, d)
                self.assertEqual(contrary(contrary(test)), test)
                self.assertIsNot(holds(self.VALUE, test), holds(self.VALUE, contrary(test)))


class TestFits(unittest.TestCase):
    def test_a_line_without_tests(self):
        for value in (0, LEAF, ("node", LEAF, 0, LEAF)):
            self.assertIs(fits(value, ((), ())), True)
            self.assertIs(fits(value, ((), (("x", (L,)),))), True)

    def test_all_tests_have_to_hold(self):
        value = ("node", LEAF, 2, LEAF)
        good = (("is", (), "node"), ("most", None, (M,), -2), ("is", (R,), "leaf"))
        self.assertIs(fits(value, (good, ())), True)
        for at in range(3):
            for bad in (("is", (), "leaf"), ("most", None, (M,), -3), ("is", (L, L), "leaf"), ("is", (M,), "node")):
                self.assertIs(fits(value, (good[:at] + (bad,) + good[at:], ())), False)

    def test_lines_fit_just_the_values_of_the_shape(self):
        chance = random.Random(10)
        seen = {True: 0, False: 0}
        for number in range(800):
            kind = chance.choice(("tree", "pair", "box", "pick", "num"))
            shape = bare_shape(chance, MIXED, kind, 4)
            if not is_shape(MIXED, kind, shape):
                continue
            lines = lines_of(MIXED, kind, shape, ())
            for turn in range(6):
                value = chance_value(chance, MIXED, kind, 3)
                expected = seen_by(shape, value)
                seen[expected] += 1
                self.assertIs(any(fits(value, line) for line in lines), expected)
        self.assertGreater(min(seen.values()), 200)

    def test_holds_lead_to_parts_of_the_kind(self):
        chance = random.Random(12)
        count = 0
        for number in range(600):
            shape = held_shape(chance, MIXED, "pair", 3, list("stuvwxyz"))
            if not is_shape(MIXED, "pair", shape):
                continue
            for tests, places in lines_of(MIXED, "pair", shape, ()):
                for name, spot in places:
                    self.assertTrue(is_spot(MIXED, "pair", spot))
                for turn in range(5):
                    value = chance_value(chance, MIXED, "pair", 3)
                    if fits(value, (tests, places)):
                        for name, spot in places:
                            self.assertIsNotNone(part_at(value, spot))
                            self.assertIsNotNone(kind_at(MIXED, "pair", spot))
                            count += 1
        self.assertGreater(count, 200)


if __name__ == "__main__":
    unittest.main()
