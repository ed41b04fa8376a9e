"""[2.1], [2.2]: spots, the kinds at them, the parts there."""

import copy
import random
import unittest

from samples import HUGE, LEAF, MIXED, TREES, chance_value, nested_value, spots_within
from shapecourt.spots import is_spot, kind_at, part_at, put_at
from shapecourt.values import is_value

L, M, R = ("node", 0), ("node", 1), ("node", 2)


class SpotTest(unittest.TestCase):
    def assert_spot(self, book, kind, thing):
        self.assertIs(is_spot(book, kind, thing), True, thing)

    def assert_none(self, book, kind, thing):
        self.assertIs(is_spot(book, kind, thing), False, thing)


class TestIsSpot(SpotTest):
    def test_the_whole(self):
        for kind in ("num", "tree", "loop", "box", "pair", "pick"):
            self.assert_spot(MIXED, kind, ())
            self.assertEqual(kind_at(MIXED, kind, ()), kind)

    def test_one_step(self):
        for i, field in enumerate(("tree", "num", "tree")):
            self.assert_spot(TREES, "tree", (("node", i),))
            self.assertEqual(kind_at(TREES, "tree", (("node", i),)), field)

    def test_several_steps(self):
        for spot, end in (((L, R, L, M), "num"), ((L, R, L), "tree"), ((R, ("tip", 0)), "box"),
                          ((R, ("tip", 0), ("case", 1)), "num"), ((R, ("tip", 1)), "num")):
            self.assert_spot(MIXED, "tree", spot)
            self.assertEqual(kind_at(MIXED, "tree", spot), end)

    def test_a_make_that_does_not_come(self):
        self.assert_none(MIXED, "tree", (("knot", 0),))
        self.assert_none(MIXED, "tree", (L, ("knot", 0)))
        self.assert_none(MIXED, "loop", (("turn", 0),))
        self.assert_none(MIXED, "loop", (("turn", 1),))
        self.assert_none(MIXED, "tree", (("knot", 0), ("turn", 1)))
        self.assert_none(MIXED, "box", (("void", 1),))
        self.assert_none(MIXED, "tree", (("tip", 0), ("void", 1), ("case", 0)))

    def test_a_make_of_another_kind(self):
        self.assert_none(MIXED, "box", (L,))
        self.assert_none(MIXED, "tree", (("grey", 0),))
        self.assert_none(MIXED, "tree", (L, ("grey", 0)))
        self.assert_none(MIXED, "pair", (("both", 1), L))

    def test_a_make_of_no_kind(self):
        for name in ("stem", "", "tree", "num", "Node", "node ", "a much longer text than a word is"):
            self.assert_none(TREES, "tree", ((name, 0),))
            self.assert_none(TREES, "tree", (L, (name, 0)))
            self.assert_none(TREES, "num", ((name, 0),))

    def test_numbers_out_of_bounds(self):
        for i in (-1, -2, -3, -HUGE, 3, 4, HUGE):
            self.assert_none(TREES, "tree", (("node", i),))
            self.assert_none(TREES, "tree", (L, ("node", i)))
            self.assert_none(TREES, "tree", (("node", i), L))
        for i in (0, 1, -1):
            self.assert_none(TREES, "tree", (("leaf", i),))
        self.assert_spot(MIXED, "pair", (("both", 3),))
        self.assert_none(MIXED, "pair", (("both", 4),))

    def test_behind_num(self):
        self.assert_none(TREES, "num", (L,))
        self.assert_none(TREES, "tree", (M, L))
        self.assert_none(TREES, "tree", (M, M))
        self.assert_none((("kind", (("num", ("num",)),)),), "num", (("num", 0),))
        self.assert_spot((("kind", (("num", ("num",)),)),), "kind", (("num", 0),))

    def test_steps_left_out_told_twice_exchanged(self):
        spot = (("both", 0), ("tip", 0), ("case", 1))
        self.assert_spot(MIXED, "pair", spot)
        for at in range(3):
            self.assert_none(MIXED, "pair", spot[:at] + spot[at:at + 1] + spot[at:])
        for wrong in (spot[1:], spot[2:], spot[:1] + spot[2:], spot[::-1], (spot[0], spot[2], spot[1]),
                      (spot[1], spot[0], spot[2])):
            self.assert_none(MIXED, "pair", wrong)

    def test_long_ones(self):
        for length in (39, 300, 600):
            self.assert_spot(TREES, "tree", (L,) * length)
            self.assert_spot(TREES, "tree", (L, R) * (length // 2) + (M,))
            self.assert_none(TREES, "tree", (L,) * length + (M, M))
            self.assert_none(TREES, "tree", (L,) * length + (("node", 3),))
            self.assertEqual(kind_at(TREES, "tree", (L,) * length + (M,)), "num")

    def test_all_short_ones(self):
        for kind in ("num", "tree", "loop", "box", "pair", "pick"):
            right = dict(spots_within(MIXED, kind, 2))
            steps = [(make, i) for name, makes in MIXED for make, fields in makes for i in range(-1, 5)]
            for spot in [()] + [(one,) for one in steps] + [(one, two) for one in steps for two in steps]:
                self.assertIs(is_spot(MIXED, kind, spot), spot in right)
                if spot in right:
                    self.assertEqual(kind_at(MIXED, kind, spot), right[spot])


class TestParts(unittest.TestCase):
    VALUE = ("node", ("node", LEAF, -4, ("tip", ("case", 8, HUGE), 9)), 0, LEAF)

    def test_the_whole(self):
        for value in (0, 7, LEAF, self.VALUE, nested_value(30)):
            self.assertEqual(part_at(value, ()), value)

    def test_parts(self):
        for spot, part in (((L,), self.VALUE[1]), ((M,), 0), ((R,), LEAF), ((L, M), -4), ((L, L), LEAF),
                           ((L, R, ("tip", 0)), ("case", 8, HUGE)), ((L, R, ("tip", 0), ("case", 0)), 8),
                           ((L, R, ("tip", 0), ("case", 1)), HUGE), ((L, R, ("tip", 1)), 9)):
            self.assertEqual(part_at(self.VALUE, spot), part)

    def test_a_value_made_otherwise_on_the_way(self):
        for spot in ((("tip", 0),), (R, L), (R, M), (L, L, M), (L, ("tip", 1)), (L, R, M), (L, R, L, M),
                     (("tip", 0), ("case", 0)), (R, ("tip", 0), ("case", 0))):
            self.assertIsNone(part_at(self.VALUE, spot))

    def test_a_number_on_the_way(self):
        for spot in ((M, L), (M, M), (L, M, M), (L, R, ("tip", 1), ("case", 0))):
            self.assertIsNone(part_at(self.VALUE, spot))
        for value in (0, 5, -1):
            self.assertIsNone(part_at(value, (L,)))

    def test_steps_that_no_spot_has(self):
        for i in (-1, -2, -4, 3, HUGE):
            self.assertIsNone(part_at(self.VALUE, (("node", i),)))
        self.assertIsNone(part_at(LEAF, (("leaf", 0),)))
        self.assertIsNone(part_at(LEAF, (("leaf", -1),)))

    def test_deep_spots(self):
        for deep in (30, 31, 300):
            value = nested_value(deep)
            self.assertEqual(part_at(value, (R,) * (deep - 1)), LEAF)
            self.assertEqual(part_at(value, (R,) * (deep - 2) + (M,)), 0)
            self.assertIsNone(part_at(value, (R,) * deep))

    def test_put_at_the_whole(self):
        for part in (0, LEAF, self.VALUE):
            self.assertEqual(put_at(self.VALUE, (), part), part)
            self.assertEqual(put_at(5, (), part), part)

    def test_put_at_each_part(self):
        value = ("node", LEAF, 0, ("tip", ("case", 1, 2), 3))
        two = ("node", LEAF, 9, LEAF)
        self.assertEqual(put_at(value, (L,), two), ("node", two, 0, ("tip", ("case", 1, 2), 3)))
        self.assertEqual(put_at(value, (M,), HUGE), ("node", LEAF, HUGE, ("tip", ("case", 1, 2), 3)))
        self.assertEqual(put_at(value, (R,), two), ("node", LEAF, 0, two))
        self.assertEqual(put_at(value, (R, ("tip", 1)), 7), ("node", LEAF, 0, ("tip", ("case", 1, 2), 7)))
        self.assertEqual(put_at(value, (R, ("tip", 0)), ("case", 5, 6)), ("node", LEAF, 0, ("tip", ("case", 5, 6), 3)))
        self.assertEqual(put_at(value, (R, ("tip", 0), ("case", 0)), 7),
                         ("node", LEAF, 0, ("tip", ("case", 7, 2), 3)))
        self.assertEqual(put_at(value, (R, ("tip", 0), ("case", 1)), 7),
                         ("node", LEAF, 0, ("tip", ("case", 1, 7), 3)))

    def test_put_deep_within(self):
        for deep in (30, 31, 300):
            value = nested_value(deep)
            spot = (R,) * (deep - 1)
            deeper = put_at(value, spot, ("node", LEAF, 1, LEAF))
            self.assertEqual(part_at(deeper, spot + (M,)), 1)
            self.assertEqual(put_at(deeper, spot, LEAF), value)

    def test_by_chance_all_else_stays(self):
        chance = random.Random(7)
        for number in range(150):
            kind = chance.choice(("tree", "pair", "pick", "box"))
            value = chance_value(chance, MIXED, kind, 3)
            kept = copy.deepcopy(value)
            for spot, end in spots_within(MIXED, kind, 3):
                old = part_at(value, spot)
                if old is not None:
                    self.assertTrue(is_value(MIXED, end, old))
                    fresh = chance_value(chance, MIXED, end, 2)
                    changed = put_at(value, spot, fresh)
                    self.assertTrue(is_value(MIXED, kind, changed))
                    self.assertEqual(part_at(changed, spot), fresh)
                    self.assertEqual(put_at(changed, spot, old), kept)
                    self.assertEqual(value, kept)


class TestQuestions(unittest.TestCase):
    def test_nothing_is_changed(self):
        book, spot = copy.deepcopy(MIXED), (L, R, ("tip", 0))
        told = copy.deepcopy(spot)
        for question in (is_spot, kind_at):
            self.assertEqual(question(book, "tree", told), question(book, "tree", told))
        self.assertEqual((book, told), (MIXED, spot))


if __name__ == "__main__":
    unittest.main()
