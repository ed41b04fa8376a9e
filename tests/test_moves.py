"""[11.1] to [11.3]: rows left out, exchanged, moved, merged, parted, tidied."""

import copy
import random
import unittest

from samples import (ANY, HUGE, KNOT, LEAF, LEAFED, MIXED, NODE, RACKS, TIP, answer_of, cases_of, chance_cases, chance_value,
                     nested_shape, node, numbers_either, numbers_in, rack)
from shapecourt.alike import alike
from shapecourt.cases import is_cases
from shapecourt.errors import Changes, NoMerge, NoRow, TooMany
from shapecourt.moves import exchanged, left_out, merged, moved, parted, tidied
from shapecourt.seeking import comes, outcomes
from shapecourt.shapes import is_shape
from shapecourt.values import depth_of, is_value

UP = ("num", 0, None)
DOWN = ("num", None, -1)
X, Y = ("held", "x", ANY), ("held", "y", ANY)
FAR = cases_of(rack(4, 4), rack(1), ANY, first="rack")


def row(shape, answer=0, *guard):
    return (shape, guard, ("num", answer))


def trees(*rows):
    return ("tree", "num", rows)


def boxes(*rows):
    return ("box", "num", rows)


def told_by(cases, value):
    told = answer_of(cases, value)
    return None if told is None else told[1]


class MoveTest(unittest.TestCase):
    def assert_moved(self, told, cases, rows):
        self.assertIsInstance(told, tuple)
        self.assertEqual(told, (cases[0], cases[1], tuple(rows)))

    def assert_changes(self, function, cases, rows, book=MIXED):
        with self.assertRaises(Changes) as caught:
            function()
        value = caught.exception.value
        self.assertTrue(is_value(book, cases[0], value))
        self.assertLessEqual(depth_of(value), 30)
        self.assertTrue(all(abs(number) < 10 ** 70 for number in numbers_in(value)))
        self.assertNotEqual(told_by(cases, value), told_by((cases[0], cases[1], tuple(rows)), value))
        return value


class TestLeftOut(MoveTest):
    def test_rows_that_never_come(self):
        cases = trees(row(KNOT, 1), row(NODE, 2), row(node(LEAFED), 3), row(ANY, 4), row(LEAFED, 5))
        rows = cases[2]
        for i in (0, 2, 4):
            self.assert_moved(left_out(MIXED, cases, i), cases, rows[:i] + rows[i + 1:])
        for i in (1, 3):
            self.assert_changes(lambda: left_out(MIXED, cases, i), cases, rows[:i] + rows[i + 1:])

    def test_rows_behind_which_the_same_is_told(self):
        cases = trees(row(NODE, 2), row(LEAFED, 7), row(ANY, 2))
        self.assert_moved(left_out(MIXED, cases, 0), cases, cases[2][1:])
        self.assert_changes(lambda: left_out(MIXED, cases, 1), cases, (cases[2][0], cases[2][2]))

    def test_the_only_row(self):
        self.assert_moved(left_out(MIXED, trees(row(KNOT)), 0), trees(), ())
        self.assertEqual(self.assert_changes(lambda: left_out(MIXED, trees(row(LEAFED)), 0), trees(row(LEAFED)), ()), LEAF)

    def test_huge_numbers(self):
        cases = ("num", "num", (row(("num", HUGE, HUGE), 1), row(("num", -HUGE, HUGE - 1), 2), row(("num", -HUGE, HUGE), 3)))
        self.assert_moved(left_out(MIXED, cases, 2), cases, cases[2][:2])
        self.assertEqual(self.assert_changes(lambda: left_out(MIXED, cases, 0), cases, cases[2][1:]), HUGE)


class TestExchanged(MoveTest):
    def test_takings_that_do_not_overlap(self):
        cases = trees(row(NODE, 1), row(LEAFED, 2), row(TIP, 3))
        a, b, c = cases[2]
        self.assert_moved(exchanged(MIXED, cases, 0), cases, (b, a, c))
        self.assert_moved(exchanged(MIXED, cases, 1), cases, (a, c, b))

    def test_takings_that_overlap(self):
        low, high = row(node(ANY, ("num", None, 3)), 1), row(node(ANY, ("num", 3, None)), 2)
        value = self.assert_changes(lambda: exchanged(MIXED, trees(low, high), 0), trees(low, high), (high, low))
        self.assertEqual(value[2], 3)
        low = row(node(ANY, ("num", None, 3)), 2)
        self.assert_moved(exchanged(MIXED, trees(low, high), 0), trees(), (high, low))
        first = row(node(ANY, ("num", 0, 9)), 5)
        low = row(node(ANY, ("num", None, 3)), 1)
        cases = trees(first, low, high)
        self.assert_moved(exchanged(MIXED, cases, 1), cases, (first, high, low))

    def test_by_guards(self):
        box = ("make", "case", (X, Y))
        below, above = row(box, 1, ("x", "<", "y")), row(box, 2, ("y", "<", "x"))
        self.assert_moved(exchanged(MIXED, boxes(below, above), 0), boxes(), (above, below))
        above = row(box, 2, ("y", "<=", "x"), ("x", "<=", HUGE))
        self.assert_moved(exchanged(MIXED, boxes(below, above), 0), boxes(), (above, below))
        below = row(box, 1, ("x", "<=", "y"))
        value = self.assert_changes(lambda: exchanged(MIXED, boxes(below, above), 0), boxes(below, above), (above, below))
        self.assertEqual(value[1], value[2])


class TestMoved(MoveTest):
    CASES = trees(row(NODE, 1), row(LEAFED, 2), row(TIP, 3), row(KNOT, 4))

    def test_each_place(self):
        for i in range(4):
            for j in range(4):
                rows = list(self.CASES[2])
                rows.insert(j, rows.pop(i))
                self.assert_moved(moved(MIXED, self.CASES, i, j), self.CASES, rows)

    def test_the_same_place(self):
        cases = trees(row(ANY, 1), row(ANY, 2))
        for i in (0, 1):
            self.assertEqual(moved(MIXED, cases, i, i), cases)

    def test_what_changes(self):
        cases = trees(row(LEAFED, 1), row(NODE, 2), row(ANY, 3))
        a, b, c = cases[2]
        self.assert_changes(lambda: moved(MIXED, cases, 0, 2), cases, (b, c, a))
        self.assert_changes(lambda: moved(MIXED, cases, 2, 0), cases, (c, a, b))
        self.assert_changes(lambda: moved(MIXED, cases, 2, 1), cases, (a, c, b))
        self.assert_moved(moved(MIXED, cases, 0, 1), cases, (b, a, c))
        self.assert_moved(moved(MIXED, cases, 1, 0), cases, (b, a, c))


class TestRefusals(unittest.TestCase):
    def test_no_row(self):
        near = cases_of(LEAFED, NODE, TIP)
        for book, cases in ((MIXED, near), (RACKS, FAR)):
            for i in (-1, -3, 3, 4, HUGE, -HUGE):
                for function in (left_out, exchanged, merged, parted):
                    with self.assertRaises(NoRow):
                        function(book, cases, i)
                for pair in ((i, 0), (0, i), (i, i), (2, i), (i, 2)):
                    with self.assertRaises(NoRow):
                        moved(book, cases, *pair)
            for function in (exchanged, merged):
                with self.assertRaises(NoRow):
                    function(book, cases, 2)
        for function in (left_out, exchanged, merged, parted):
            with self.assertRaises(NoRow):
                function(MIXED, cases_of(), 0)

    def test_too_many_ahead_of_changes(self):
        for function in (lambda: left_out(RACKS, FAR, 1), lambda: left_out(RACKS, FAR, 0), lambda: exchanged(RACKS, FAR, 0),
                         lambda: moved(RACKS, FAR, 0, 2), lambda: moved(RACKS, FAR, 1, 1), lambda: tidied(RACKS, FAR)):
            with self.assertRaises(TooMany):
                function()

    def test_too_many_of_the_old_ones(self):
        spans = [("num", 0, 9), ("num", 0, 9), UP]
        at_most = cases_of(ANY, rack(4, 0, spans), first="rack")
        self.assertEqual(outcomes(RACKS, at_most), 20000)
        self.assertEqual(left_out(RACKS, at_most, 1), at_most[:2] + (at_most[2][:1],))
        more = cases_of(ANY, rack(4, 0, spans + [UP]), first="rack")
        for i in (0, 1):
            with self.assertRaises(TooMany):
                left_out(RACKS, more, i)

    def test_merging_and_parting_seek_nothing(self):
        either = ("either", (rack(4, 4), ANY))
        cases = ("rack", "num", (row(rack(4, 4)), row(ANY), row(either)))
        self.assertEqual(merged(RACKS, cases, 0)[2], (row(either), row(either)))
        self.assertEqual(parted(RACKS, cases, 2)[2], (row(rack(4, 4)), row(ANY), row(rack(4, 4)), row(ANY)))


class TestMerged(MoveTest):
    def assert_no_merge(self, *rows, first="tree"):
        cases = (first, "num", rows)
        self.assertTrue(is_cases(MIXED, cases), rows)
        with self.assertRaises(NoMerge):
            merged(MIXED, cases, 0)

    def assert_merged(self, cases, i, rows):
        self.assertTrue(is_cases(MIXED, cases))
        told = merged(MIXED, cases, i)
        self.assert_moved(told, cases, rows)
        self.assertTrue(is_cases(MIXED, told))
        if outcomes(MIXED, cases) <= 20000:
            self.assertEqual(alike(MIXED, cases, told)[0], "paper")

    def test_equal_guards_and_answers(self):
        a, b, c = row(LEAFED, 1), row(NODE, 1), row(TIP, 1)
        self.assert_merged(trees(a, b, c), 0, (row(("either", (LEAFED, NODE)), 1), c))
        self.assert_merged(trees(a, b, c), 1, (a, row(("either", (NODE, TIP)), 1)))
        self.assert_merged(trees(a, a), 0, (row(("either", (LEAFED, LEAFED)), 1),))
        self.assert_merged(trees(row(KNOT), row(ANY)), 0, (row(("either", (KNOT, ANY))),))
        sides = ("either", (("either", (LEAFED, NODE)), TIP))
        self.assert_merged(trees(row(sides[1][0], 1), c), 0, (row(sides, 1),))

    def test_names_held(self):
        one, other = node(ANY, X), ("make", "tip", (ANY, X))
        guard = ("x", ">", 3)
        shape = ("either", (one, other))
        self.assert_merged(trees((one, (guard,), ("held", "x")), (other, (guard,), ("held", "x"))), 0,
                           ((shape, (guard,), ("held", "x")),))
        one, other = ("make", "case", (X, Y)), ("make", "case", (Y, X))
        self.assert_merged(boxes(row(one), row(other)), 0, (row(("either", (one, other))),))

    def test_each_thing_unlike(self):
        one, other = node(ANY, X), ("make", "tip", (ANY, X))
        guard = ("x", ">", 3)
        self.assert_no_merge(row(one, 1), row(other, 2))
        self.assert_no_merge(row(one, 1, guard), row(other, 1))
        self.assert_no_merge(row(one, 1, guard), row(other, 1, ("x", ">=", 4)))
        self.assert_no_merge(row(one, 1, guard, ("x", "<", 5)), row(other, 1, ("x", "<", 5), guard))
        self.assert_no_merge((one, (), ("held", "x")), (other, (), ("num", 0)))
        self.assert_no_merge(row(one, 1), row(TIP, 1))
        self.assert_no_merge(row(NODE, 1), row(other, 1))
        self.assert_no_merge(row(one, 1), row(node(ANY, Y), 1))
        self.assert_no_merge(row(one, 1), row(("held", "x", NODE), 1))
        self.assert_no_merge(row(("held", "x", node(ANY, Y)), 1), row(("held", "y", node(ANY, X)), 1))

    def test_too_deep(self):
        deep = nested_shape(11)
        shallow = nested_shape(10)
        self.assertTrue(is_shape(MIXED, "num", deep))
        self.assert_no_merge(row(deep), row(deep), first="num")
        self.assert_merged(("num", "num", (row(shallow), row(shallow))), 0, (row(("either", (shallow, shallow))),))
        flat = ANY
        for turn in range(11):
            flat = ("either", (flat,))
        self.assert_no_merge(row(ANY), row(flat), first="num")
        self.assert_no_merge(row(flat), row(ANY), first="num")
        self.assert_merged(("num", "num", (row(ANY), row(flat[1][0]))), 0, (row(("either", (ANY, flat[1][0]))),))

    def test_too_many_lines(self):
        for one, other, right in ((12, 12, True), (12, 13, False), (23, 1, True), (24, 1, False), (1, 24, False)):
            rows = [row(numbers_either(count)) for count in (one, other)]
            if right:
                self.assert_merged(("num", "num", tuple(rows)), 0, (row(("either", (rows[0][0], rows[1][0]))),))
            else:
                self.assert_no_merge(*rows, first="num")


class TestParted(MoveTest):
    def assert_parted(self, cases, i, rows):
        self.assertTrue(is_cases(MIXED, cases))
        told = parted(MIXED, cases, i)
        self.assert_moved(told, cases, rows)
        self.assertTrue(is_cases(MIXED, told))
        self.assertEqual(alike(MIXED, cases, told)[0], "paper")

    def test_the_sides_in_order(self):
        sides = (LEAFED, TIP, node(LEAFED))
        cases = trees(row(KNOT, 1), row(("either", sides), 2), row(ANY, 3))
        self.assert_parted(cases, 1, (cases[2][0],) + tuple(row(side, 2) for side in sides) + (cases[2][2],))
        self.assert_parted(trees(row(("either", (NODE,)), 2)), 0, (row(NODE, 2),))
        inner = ("either", (LEAFED, TIP))
        self.assert_parted(trees(row(("either", (inner, NODE)))), 0, (row(inner), row(NODE)))

    def test_guard_and_answer(self):
        sides = (node(ANY, X), ("make", "tip", (ANY, X)))
        rest = ((("x", ">", 3),), ("held", "x"))
        self.assert_parted(trees((("either", sides),) + rest), 0, tuple((side,) + rest for side in sides))

    def test_no_either(self):
        either = ("either", (LEAFED, NODE))
        for shape in (ANY, LEAFED, ("held", "x", either), node(either)):
            with self.assertRaises(NoMerge):
                parted(MIXED, trees(row(shape)), 0)

    def test_eight_rows_and_more(self):
        either = row(("either", (LEAFED, NODE, TIP)))
        for more in range(8):
            for i in sorted({0, more // 2, more}):
                rows = [row(LEAFED, k) for k in range(more)]
                rows.insert(i, either)
                if more + 3 <= 8:
                    parts = tuple(row(side) for side in either[0][1])
                    self.assert_parted(trees(*rows), i, tuple(rows[:i]) + parts + tuple(rows[i + 1:]))
                else:
                    with self.assertRaises(NoMerge):
                        parted(MIXED, trees(*rows), i)
        one = row(("either", (LEAFED,)))
        self.assert_parted(trees(*[one] * 8), 7, (one,) * 7 + (row(LEAFED),))


class TestTidied(MoveTest):
    def assert_tidied(self, cases, numbers):
        told = tidied(MIXED, cases)
        self.assertIsInstance(told, tuple)
        self.assertEqual(told, ((cases[0], cases[1], tuple(cases[2][i] for i in numbers)), numbers))
        self.assertIsInstance(told[0][2], tuple)
        self.assertIsInstance(told[1], list)
        self.assertEqual(alike(MIXED, cases, told[0])[0], "paper")
        for i in range(len(numbers)):
            self.assertEqual(comes(MIXED, told[0], i)[0], "value")

    def test_several_places(self):
        self.assert_tidied(cases_of(KNOT, NODE, node(LEAFED), LEAFED, KNOT, ANY, TIP), [1, 3, 5])
        self.assert_tidied(cases_of(ANY, ANY, LEAFED), [0])
        self.assert_tidied(cases_of(LEAFED, ("either", (KNOT, LEAFED)), NODE), [0, 2])

    def test_none_and_all(self):
        self.assert_tidied(cases_of(LEAFED, NODE, TIP), [0, 1, 2])
        self.assert_tidied(cases_of(LEAFED, NODE), [0, 1])
        self.assert_tidied(cases_of(KNOT, KNOT), [])
        self.assert_tidied(cases_of(), [])

    def test_rows_that_come_together_hide_another(self):
        self.assert_tidied(cases_of(UP, DOWN, ("num", -3, 3), first="num"), [0, 1])

    def test_the_list_is_the_askers_own(self):
        cases = cases_of(LEAFED, LEAFED)
        tidied(MIXED, cases)[1].append(9)
        self.assert_tidied(cases, [0])

    def test_by_chance(self):
        chance = random.Random(71)
        seen = {True: 0, False: 0}
        while min(seen.values()) < 40:
            cases = chance_cases(chance, MIXED, is_shape)
            if outcomes(MIXED, cases) > 2000:
                continue
            numbers = [i for i in range(len(cases[2])) if comes(MIXED, cases, i)[0] == "value"]
            self.assert_tidied(cases, numbers)
            seen[len(numbers) == len(cases[2])] += 1


class TestByChance(MoveTest):
    def test_moves(self):
        chance = random.Random(72)
        seen = {"moved": 0, "changes": 0, "merged": 0, "parted": 0}
        while min(seen.values()) < 25:
            cases = self.some_cases(chance)
            count = len(cases[2])
            if count < 2 or outcomes(MIXED, cases) > 2000:
                continue
            i = chance.randrange(count - 1)
            j = chance.randrange(count)
            rows = cases[2]
            rest = rows[:i] + rows[i + 1:]
            for function, told in ((lambda: left_out(MIXED, cases, i), rest),
                                   (lambda: exchanged(MIXED, cases, i), rows[:i] + (rows[i + 1], rows[i]) + rows[i + 2:]),
                                   (lambda: moved(MIXED, cases, i, j), rest[:j] + (rows[i],) + rest[j:])):
                seen[self.done(chance, function, cases, told)] += 1
            for name, function in (("merged", merged), ("parted", parted)):
                try:
                    told = function(MIXED, cases, i)
                except NoMerge:
                    continue
                seen[name] += 1
                self.assertTrue(is_cases(MIXED, told))
                self.assertEqual(alike(MIXED, cases, told)[0], "paper")

    def some_cases(self, chance):
        cases = chance_cases(chance, MIXED, is_shape)
        rows = list(cases[2])
        if rows and chance.randint(0, 1):
            rows.insert(0, rows[chance.randrange(len(rows))])
        return (cases[0], cases[1], tuple(rows))

    def done(self, chance, function, cases, rows):
        """Whether a move is done or refused, either being as told."""
        fresh = (cases[0], cases[1], rows)
        try:
            told = function()
        except Changes:
            self.assert_changes(function, cases, rows)
            return "changes"
        self.assertEqual(told, fresh)
        for turn in range(5):
            value = chance_value(chance, MIXED, cases[0], 3)
            self.assertEqual(told_by(cases, value), told_by(fresh, value))
        return "moved"

    def test_nothing_is_changed(self):
        cases = cases_of(LEAFED, ("either", (NODE, KNOT)), TIP)
        told = copy.deepcopy((MIXED, cases))
        for function in (exchanged, left_out, merged, parted):
            try:
                function(*told, 1)
            except (Changes, NoMerge):
                pass
        tidied(*told)
        moved(*told, 0, 2)
        self.assertEqual(told, (MIXED, cases))


if __name__ == "__main__":
    unittest.main()
