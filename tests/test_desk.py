"""[13.1], [13.2]: the desk, its rows, its answers, its refusals and their order."""

import itertools
import random
import unittest

from samples import HUGE, MIXED, RACKS, TREES, chance_cases, nested_value, rack
from shapecourt.alike import alike
from shapecourt.cases import told
from shapecourt.desk import Desk
from shapecourt.errors import Changes, CourtError, NoDeed, NoMerge, NoName, NoRow, NoText, TooMany
from shapecourt.least import least_tree
from shapecourt.moves import exchanged, left_out, merged, moved, parted, tidied
from shapecourt.papers import answers
from shapecourt.shapes import is_shape
from shapecourt.texts import read_cases, read_value, written_book, written_cases, written_value
from shapecourt.trees import depth

BOOK = "tree = leaf | node(tree num tree)"
SIGNED = "tree to num\nleaf => 0\nnode(_ x@.. _) if x > 0 => x\nnode(_ _ _) => -1"
PARTLY = "tree to num\nnode(_ 0..9 _) => 1\nnode(_ 5.. _) => 2\nnode(_ 6..8 _) => 3"
FLAT = "tree to tree\nx@_ => x"
EMPTY = "tree to num"
SIDES = "tree to num\n[leaf / node(_ _ _)] => 0"
FAR = written_cases(("rack", "num", ((rack(4, 4), (), ("num", 0)), (("any",), (), ("num", 1)))))
QUESTIONS = ("covered", "least", "show", "tidy", "undo")
NUMBERED = ("comes", "drop", "swap", "merge", "part")
BAD_NAMES = ("", "A", "abcdefghi", "a1", "a-b", "1", "_", "\u00e9", "a\n")
BAD_NUMBERS = ("", "-1", "-0", "00", "01", "001", "1000", "0000", "+1", "a", "1a", "1 ", "\u0663", "\u00b2", "1\n", "1.0", "_", "1_0")


def desk_with(**kept):
    desk = Desk(BOOK)
    for name in kept:
        desk.say(f"keep {name}\n{kept[name]}")
    return desk


def state_of(desk):
    """All that a desk shows of what stands under its names."""
    names = desk.say("names")
    return {name: desk.say("show " + name) for name in names.split(" ") if name != "-"}


class DeskTest(unittest.TestCase):
    def assert_said(self, desk, row, answer):
        told_text = desk.say(row)
        self.assertIsInstance(told_text, str)
        self.assertEqual(told_text, answer, row)

    def assert_refused(self, desk, row, error):
        ahead = state_of(desk)
        with self.assertRaises(CourtError) as caught:
            desk.say(row)
        self.assertIs(type(caught.exception), error, row)
        self.assertEqual(state_of(desk), ahead)
        return caught.exception


class TestMaking(DeskTest):
    def test_of_a_books_text(self):
        for book in (TREES, MIXED, RACKS):
            self.assert_said(Desk(written_book(book)), "names", "-")

    def test_of_anything_else(self):
        for thing in ("", "tree", "tree = node(stem)", BOOK + " ", BOOK + "\n", None, 5, True, TREES, (), [BOOK], b"tree = leaf",
                      "num = leaf", "a = " + "b(" * 2000):
            with self.assertRaises(NoText):
                Desk(thing)


class TestKeeping(DeskTest):
    def test_keep_show_names(self):
        desk = Desk(BOOK)
        self.assert_said(desk, "keep b\n" + SIGNED, "rows 3")
        self.assert_said(desk, "show b", SIGNED)
        self.assert_said(desk, "names", "b")
        self.assert_said(desk, "keep abcdefgh\n" + EMPTY, "rows 0")
        self.assert_said(desk, "keep a\n" + FLAT, "rows 1")
        self.assert_said(desk, "names", "a abcdefgh b")
        self.assert_said(desk, "show abcdefgh", EMPTY)
        self.assert_said(desk, "show a", FLAT)

    def test_in_place_of_what_stood(self):
        desk = desk_with(a=SIGNED)
        self.assert_said(desk, "keep a\n" + FLAT, "rows 1")
        self.assert_said(desk, "show a", FLAT)
        self.assert_said(desk, "names", "a")

    def test_names_that_are_words_of_rows(self):
        desk = Desk(BOOK)
        for name in ("names", "keep", "tell", "undo", "num", "tree", "leaf"):
            self.assert_said(desk, f"keep {name}\n{SIGNED}", "rows 3")
            self.assert_said(desk, "show " + name, SIGNED)
            self.assert_said(desk, f"tell {name} leaf", "0 0")
        self.assert_said(desk, "names", "keep leaf names num tell tree undo")

    def test_cases_that_do_not_read(self):
        desk = desk_with(a=SIGNED)
        for text in ("", "\n", "tree", SIGNED + "\n", SIGNED + " ", " " + SIGNED, "stem to num", "tree to num\nleaf => leaf",
                     "tree to num\n" + "[" * 2000, "tree to num" + "\nleaf => 0" * 9):
            for name in ("a", "b"):
                self.assert_refused(desk, f"keep {name}\n{text}", NoText)
        self.assert_said(desk, "keep b\ntree to num" + "\nleaf => 0" * 8, "rows 8")

    def test_two_desks_do_not_touch_each_other(self):
        one, other = desk_with(a=SIGNED), desk_with(a=FLAT, b=EMPTY)
        self.assert_said(one, "swap a 0", "rows 3")
        self.assert_said(one, "names", "a")
        self.assert_said(other, "names", "a b")
        self.assert_said(other, "show a", FLAT)
        self.assert_refused(other, "undo a", NoDeed)


class TestQuestions(DeskTest):
    def test_tell(self):
        desk = desk_with(a=SIGNED, b=FLAT, c="num to num\n0..5 => 7", d="tree to num\nleaf => 0")
        for row, answer in (("tell a leaf", "0 0"), ("tell a node(leaf 5 leaf)", "1 5"), ("tell a node(leaf 0 leaf)", "2 -1"),
                            ("tell b node(leaf -3 leaf)", "0 node(leaf -3 leaf)"), ("tell c 5", "0 7"), ("tell c 6", "none"),
                            ("tell c -1", "none"), ("tell d node(leaf 1 leaf)", "none"),
                            ("tell a node(leaf " + "9" * 70 + " leaf)", "1 " + "9" * 70)):
            self.assert_said(desk, row, answer)

    def test_values_that_do_not_read(self):
        desk = desk_with(a=SIGNED, c="num to num\n_ => 0")
        for value in ("", " ", "leaf ", " leaf", "5", "node(leaf leaf)", "leaf\n", "\nleaf", "a", "leaf leaf",
                      written_value(nested_value(31)), "node(" * 2000):
            self.assert_refused(desk, "tell a " + value, NoText)
            self.assert_refused(desk, "tell b " + value, NoName)
        for value in ("", "05", "-0", "+5", "leaf", "1" * 71):
            self.assert_refused(desk, "tell c " + value, NoText)
        self.assert_said(desk, "tell a " + written_value(nested_value(30)), "1 28")

    def test_covered(self):
        desk = desk_with(a=SIGNED, b=EMPTY, d=PARTLY)
        self.assert_said(desk, "covered a", "yes")
        for name, text in (("b", EMPTY), ("d", PARTLY)):
            word, blank, value = desk.say("covered " + name).partition(" ")
            self.assertEqual(word, "no")
            self.assertIsNone(told(TREES, read_cases(TREES, text), read_value(TREES, "tree", value)))

    def test_comes(self):
        desk = desk_with(d=PARTLY)
        cases = read_cases(TREES, PARTLY)
        for i in (0, 1):
            word, blank, value = desk.say(f"comes d {i}").partition(" ")
            self.assertEqual(word, "by")
            self.assertEqual(told(TREES, cases, read_value(TREES, "tree", value))[0], i)
        self.assert_said(desk, "comes d 2", "never")

    def test_meet(self):
        desk = desk_with(d=PARTLY, a=SIGNED)
        cases = read_cases(TREES, PARTLY)
        for i, j in itertools.product(range(3), repeat=2):
            word, blank, value = desk.say(f"meet d {i} {j}").partition(" ")
            self.assertEqual(word, "by")
            self.assertTrue(answers(TREES, cases, ((i, j), ()), read_value(TREES, "tree", value)))
        self.assert_said(desk, "meet a 0 1", "never")
        self.assert_said(desk, "meet a 2 0", "never")

    def test_alike(self):
        other = "tree to num\nnode(_ x@.. _) if x >= 1 => x\nleaf => 0\n_ => -1"
        desk = desk_with(a=SIGNED, b=other, c=EMPTY, d=FLAT)
        for row in ("alike a a", "alike a b", "alike b a", "alike c c", "alike d d"):
            self.assert_said(desk, row, "yes")
        for row in ("alike a c", "alike c b"):
            word, blank, value = desk.say(row).partition(" ")
            self.assertEqual(word, "no")
            read_value(TREES, "tree", value)
        self.assert_refused(desk, "alike a d", NoDeed)
        self.assert_refused(desk, "alike d c", NoDeed)
        desk.say("keep e\nnum to num")
        self.assert_refused(desk, "alike c e", NoDeed)
        self.assert_refused(desk, "alike e c", NoDeed)

    def test_least(self):
        desk = desk_with(a=SIGNED, b=EMPTY, c="num to num\n0..9 => 0", d=PARTLY)
        for name, deep in (("a", 2), ("b", 0), ("c", 2)):
            self.assert_said(desk, "least " + name, str(deep))
        self.assert_said(desk, "least d", str(depth(least_tree(TREES, read_cases(TREES, PARTLY))[0])))


class TestMoves(DeskTest):
    def test_each_move(self):
        cases = read_cases(TREES, PARTLY)
        for text, row, fresh in ((PARTLY, "drop a 2", left_out(TREES, cases, 2)), (PARTLY, "tidy a", tidied(TREES, cases)[0]),
                                 (SIGNED, "swap a 0", exchanged(TREES, read_cases(TREES, SIGNED), 0)),
                                 (SIGNED, "move a 2 2", read_cases(TREES, SIGNED)),
                                 (SIGNED, "move a 0 2", moved(TREES, read_cases(TREES, SIGNED), 0, 2)),
                                 (SIDES, "part a 0", parted(TREES, read_cases(TREES, SIDES), 0)),
                                 ("tree to num\nleaf => 0\nnode(_ _ _) => 0", "merge a 0", read_cases(TREES, SIDES))):
            desk = desk_with(a=text, b=FLAT)
            self.assert_said(desk, row, f"rows {len(fresh[2])}")
            self.assert_said(desk, "show a", written_cases(fresh))
            self.assert_said(desk, "show b", FLAT)
            self.assert_refused(desk, "undo b", NoDeed)
            self.assert_said(desk, "undo a", f"rows {text.count('=>')}")
            self.assert_said(desk, "show a", text)
            self.assert_refused(desk, "undo a", NoDeed)

    def test_moves_that_are_refused(self):
        desk = desk_with(a=SIGNED, b=PARTLY)
        for row in ("drop a 0", "swap b 0", "move a 2 1", "move b 1 0"):
            value = self.assert_refused(desk, row, Changes).value
            self.assertEqual(read_value(TREES, "tree", written_value(value)), value)
        for row in ("merge a 0", "part a 0"):
            self.assert_refused(desk, row, NoMerge)
        for name in ("a", "b"):
            self.assert_refused(desk, "undo " + name, NoDeed)

    def test_no_row(self):
        desk = desk_with(a=SIGNED, b=EMPTY)
        for word in NUMBERED:
            for number in ("3", "10", "999"):
                self.assert_refused(desk, f"{word} a {number}", NoRow)
            self.assert_refused(desk, f"{word} b 0", NoRow)
        for word in ("swap", "merge"):
            self.assert_refused(desk, word + " a 2", NoRow)
        for word in ("meet", "move"):
            for numbers in ("3 0", "0 3", "999 999", "0 10"):
                self.assert_refused(desk, f"{word} a {numbers}", NoRow)

    def test_undo_several_times(self):
        desk = desk_with(a=SIDES)
        shown = [SIDES]
        for row in ("part a 0", "swap a 0", "merge a 0", "move a 0 0", "tidy a", "part a 0", "move a 0 1", "tidy a"):
            desk.say(row)
            shown.append(desk.say("show a"))
        self.assertEqual(shown[3], shown[4])
        for text in reversed(shown[:-1]):
            self.assert_said(desk, "undo a", f"rows {text.count('=>')}")
            self.assert_said(desk, "show a", text)
        self.assert_refused(desk, "undo a", NoDeed)

    def test_a_move_behind_an_undo(self):
        desk = desk_with(a=SIDES)
        desk.say("part a 0")
        desk.say("swap a 0")
        desk.say("undo a")
        desk.say("merge a 0")
        self.assert_said(desk, "show a", SIDES)
        self.assert_said(desk, "undo a", "rows 2")
        self.assert_said(desk, "undo a", "rows 1")
        self.assert_refused(desk, "undo a", NoDeed)

    def test_a_move_that_changed_nothing_is_taken_back_alone(self):
        desk = desk_with(a=SIDES)
        desk.say("part a 0")
        desk.say("move a 1 1")
        desk.say("tidy a")
        for count in (2, 2, 1):
            self.assert_said(desk, "undo a", f"rows {count}")
        self.assert_refused(desk, "undo a", NoDeed)

    def test_a_refused_move_is_not_taken_back(self):
        desk = desk_with(a=SIDES)
        desk.say("part a 0")
        self.assert_refused(desk, "drop a 0", Changes)
        self.assert_refused(desk, "part a 0", NoMerge)
        self.assert_refused(desk, "drop a 5", NoRow)
        self.assert_said(desk, "undo a", "rows 1")

    def test_nothing_is_taken_back_behind_keep(self):
        desk = desk_with(a=SIDES)
        self.assert_refused(desk, "undo a", NoDeed)
        desk.say("part a 0")
        desk.say("keep a\n" + SIGNED)
        self.assert_refused(desk, "undo a", NoDeed)
        desk.say("swap a 0")
        self.assert_refused(desk, "keep a\nleaf", NoText)
        self.assert_said(desk, "undo a", "rows 3")
        self.assert_said(desk, "show a", SIGNED)
        self.assert_refused(desk, "undo a", NoDeed)

    def test_undo_of_one_name_alone(self):
        desk = desk_with(a=SIDES, b=SIDES)
        desk.say("part a 0")
        desk.say("part b 0")
        desk.say("undo a")
        self.assert_said(desk, "show a", SIDES)
        self.assert_said(desk, "show b", "tree to num\nleaf => 0\nnode(_ _ _) => 0")
        self.assert_refused(desk, "undo a", NoDeed)
        self.assert_said(desk, "undo b", "rows 1")


class TestForms(DeskTest):
    def test_no_such_rows(self):
        desk = desk_with(a=SIGNED, b=SIGNED)
        for row in ("", " ", "\n", "a", "name", "names a", "names ", " names", "names\n", "Names", "show", "show ", "show a ",
                    " show a", "show  a", "show a b", "show a\n", "show\na", "SHOW a", "keep", "keep ", "keep a", "keep a ",
                    "keep  a\n" + SIGNED, "keep a \n" + SIGNED, "keep a b\n" + SIGNED, "keep\n" + SIGNED, "keep \n" + SIGNED,
                    "keep a " + SIGNED, "tell", "tell ", "tell a", "tell a\nleaf", "tell  a leaf", "tell", "tellaleaf", "covered",
                    "covered a b", "covered a 0", "alike a", "alike a b b", "alike a  b", "alike a b ", "alike", "alike a 0",
                    "comes a", "comes a 0 1", "comes 0 a", "comes a b", "meet a", "meet a 0", "meet a 0 1 2", "meet a b 0",
                    "least", "least a 0", "drop a", "drop a 0 0", "swap a", "swap a 0 1", "move a 0", "move a 0 1 2", "move a",
                    "merge a", "merge a 0 1", "part a", "part a 0 1", "tidy", "tidy a 0", "undo", "undo a 0", "undo a a",
                    "left a", "exit", "show b\n" + SIGNED, "tell a\n" + SIGNED, "names b\n" + SIGNED, "hold b\n" + SIGNED,
                    "undo\ta", "show\ta", "(" * 2000, "keep a(" * 500):
            self.assert_refused(desk, row, NoText)

    def test_things_that_are_no_texts(self):
        desk = desk_with(a=SIGNED)
        for thing in (None, 0, 5, -1, True, False, (), ("names",), ["names"], {}, b"names", HUGE, ("show", "a")):
            self.assert_refused(desk, thing, NoText)

    def test_names_out_of_form(self):
        desk = desk_with(a=SIGNED)
        for name in BAD_NAMES:
            for row in [word + " " + name for word in QUESTIONS] + [f"{word} {name} 0" for word in NUMBERED]:
                self.assert_refused(desk, row, NoText)
            for row in (f"keep {name}\n{SIGNED}", f"tell {name} leaf", f"alike a {name}", f"alike {name} a", f"alike c {name}",
                        f"meet {name} 0 0", f"move {name} 0 0"):
                self.assert_refused(desk, row, NoText)

    def test_numbers_out_of_form(self):
        desk = desk_with(a=SIGNED)
        for number in BAD_NUMBERS:
            for name in ("a", "b"):
                for row in [f"{word} {name} {number}" for word in NUMBERED]:
                    self.assert_refused(desk, row, NoText)
                for word in ("meet", "move"):
                    for numbers in (f"{number} 0", f"0 {number}", f"9 {number}"):
                        self.assert_refused(desk, f"{word} {name} {numbers}", NoText)

    def test_numbers_in_form(self):
        desk = desk_with(a=SIGNED)
        for number in ("3", "9", "10", "99", "100", "101", "999"):
            for word in NUMBERED:
                self.assert_refused(desk, f"{word} a {number}", NoRow)
        self.assert_said(desk, "move a 0 0", "rows 3")
        self.assert_said(desk, "move a 1 0", "rows 3")

    def test_names_under_which_none_stand(self):
        desk = desk_with(a=SIGNED)
        for row in [word + " b" for word in QUESTIONS] + [f"{word} b 0" for word in NUMBERED] + [
                "meet b 0 0", "move b 9 9", "tell b leaf", "tell b ", "alike a b", "alike b a", "alike b b", "comes b 999"]:
            self.assert_refused(desk, row, NoName)
        for word in QUESTIONS:
            self.assert_refused(Desk(BOOK), word + " a", NoName)


class TestOrder(DeskTest):
    def far_desk(self):
        desk = Desk(written_book(RACKS))
        desk.say("keep a\n" + FAR)
        desk.say("keep b\nrack to rack")
        return desk

    def test_no_name_ahead_of_values_and_deeds(self):
        desk = self.far_desk()
        self.assert_refused(desk, "tell c x", NoName)
        self.assert_refused(desk, "alike b c", NoName)
        self.assert_refused(desk, "alike c a", NoName)
        self.assert_refused(desk, "undo c", NoName)
        self.assert_refused(desk, "comes c 9", NoName)

    def test_no_deed_ahead_of_too_many(self):
        desk = self.far_desk()
        self.assert_refused(desk, "alike a b", NoDeed)
        self.assert_refused(desk, "alike b a", NoDeed)
        self.assert_refused(desk, "alike a a", TooMany)

    def test_no_row_ahead_of_too_many(self):
        desk = self.far_desk()
        for row in ("comes a 2", "meet a 0 2", "drop a 2", "swap a 1", "move a 0 2", "move a 2 2"):
            self.assert_refused(desk, row, NoRow)
        for row in ("comes a 1", "meet a 0 1", "drop a 1", "swap a 0", "move a 0 1", "move a 0 0", "covered a", "tidy a",
                    "least a"):
            self.assert_refused(desk, row, TooMany)
        self.assert_refused(desk, "undo a", NoDeed)
        for row in ("merge a 0", "part a 0"):
            self.assert_refused(desk, row, NoMerge)

    def test_least_goes_by_its_own_bound(self):
        desk = Desk(written_book(RACKS))
        numbers = [("num", i, 20 - i) for i in range(4)]
        cases = ("rack", "num", tuple((rack(0, 0, told_numbers), (), ("num", 0)) for told_numbers in
                                      (numbers, [("num", 9, None)])))
        desk.say("keep a\n" + written_cases(cases))
        self.assert_refused(desk, "least a", TooMany)
        self.assertEqual(desk.say("covered a")[:3], "no ")


class TestByChance(DeskTest):
    MOVES = {"drop": left_out, "swap": exchanged, "merge": merged, "part": parted}

    def test_rows_one_behind_another(self):
        chance = random.Random(91)
        for turn in range(25):
            self.run_rows(chance)

    def run_rows(self, chance):
        desk = Desk(written_book(MIXED))
        stacks = {}
        for step in range(25):
            name = chance.choice("ab")
            if name not in stacks or chance.randint(0, 9) == 0:
                cases = chance_cases(chance, MIXED, is_shape, 3)
                stacks[name] = [cases]
                self.assert_said(desk, f"keep {name}\n{written_cases(cases)}", f"rows {len(cases[2])}")
            else:
                self.one_move(chance, desk, name, stacks[name])
            self.assertEqual(state_of(desk), {told_name: written_cases(stacks[told_name][-1]) for told_name in stacks})
            self.one_question(chance, desk, stacks)

    def one_move(self, chance, desk, name, stack):
        word = chance.choice(("drop", "swap", "merge", "part", "move", "tidy", "undo", "undo"))
        i, j = chance.randint(0, 3), chance.randint(0, 3)
        cases = stack[-1]
        row, fresh = {
            "undo": (f"undo {name}", lambda: self.taken_back(stack)),
            "tidy": (f"tidy {name}", lambda: tidied(MIXED, cases)[0]),
            "move": (f"move {name} {i} {j}", lambda: moved(MIXED, cases, i, j)),
        }.get(word) or (f"{word} {name} {i}", lambda: self.MOVES[word](MIXED, cases, i))
        try:
            expected = fresh()
        except CourtError as refusal:
            self.assert_refused(desk, row, type(refusal))
            return
        if word == "undo":
            stack.pop()
        else:
            stack.append(expected)
        self.assert_said(desk, row, f"rows {len(expected[2])}")

    def taken_back(self, stack):
        if len(stack) < 2:
            raise NoDeed("nothing")
        return stack[-2]

    def one_question(self, chance, desk, stacks):
        one, other = chance.choice(sorted(stacks)), chance.choice(sorted(stacks))
        pair = (stacks[one][-1], stacks[other][-1])
        row = f"alike {one} {other}"
        if pair[0][:2] != pair[1][:2]:
            self.assert_refused(desk, row, NoDeed)
            return
        try:
            word, shown = alike(MIXED, *pair)
        except TooMany:
            self.assert_refused(desk, row, TooMany)
            return
        self.assert_said(desk, row, "yes" if word == "paper" else "no " + written_value(shown))


if __name__ == "__main__":
    unittest.main()
