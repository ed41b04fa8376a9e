"""[0.2], [0.4]: what is promised over the whole program, of books and cases by chance."""

import copy
import random
import unittest

from samples import answer_of, chance_guard, coming, held_shape, names_held
from shapecourt.alike import alike, lets_alike
from shapecourt.cases import is_cases, line_of, told
from shapecourt.desk import Desk
from shapecourt.errors import Changes, NoMerge, TooMany
from shapecourt.facts import at_odds, in_order, met
from shapecourt.kinds import has_values, is_book, plain_value
from shapecourt.least import least_tree, lets_least
from shapecourt.lines import holds
from shapecourt.moves import exchanged, left_out, merged, moved, parted, tidied
from shapecourt.papers import answers, lets
from shapecourt.seeking import comes, covered, left, looks_of, meet, outcomes, sought
from shapecourt.shapes import is_shape
from shapecourt.texts import read_book, read_cases, read_value, written_book, written_cases, written_value
from shapecourt.trees import depth, gone, is_own, is_right, leaves, tree_of
from shapecourt.values import depth_of, is_value

ODDS = ("odds",)


def chance_book(chance):
    """Some book; some of its kinds may have no values, some only one make that comes."""
    kinds = ["k" + letter for letter in "abcdef"[:chance.randint(1, 4)]]
    book = []
    for kind in kinds:
        names = [kind[1] + letter for letter in "abcdef"[:chance.randint(1, 4)]]
        fields = [tuple(chance.choices(kinds + ["num"] * 3, k=chance.choice((0, 0, 1, 1, 2, 3)))) for name in names]
        book.append((kind, tuple(zip(names, fields))))
    return tuple(book)


def some_value(chance, book, kind, deep):
    """Some value of a kind that has values."""
    if kind == "num":
        return chance.choice((0, 0, 1, 2, 3, -1, -2, 5))
    if deep <= 0:
        return plain_value(book, kind)
    name, fields = chance.choice(coming(book, kind))
    return (name,) + tuple(some_value(chance, book, field, deep - 1) for field in fields)


def some_answer(chance, book, kind, pairs, deep):
    """Some answer of a kind that has values."""
    names = [name for name, at in pairs if at == kind]
    if names and chance.randint(0, 3):
        return ("held", chance.choice(names))
    if kind == "num":
        return ("num", chance.randint(-2, 3))
    makes = coming(book, kind)
    if deep <= 0:
        makes = [make for make in makes if make[0] == plain_value(book, kind)[0]]
    name, fields = chance.choice(makes)
    return ("make", name, tuple(some_answer(chance, book, field, pairs, deep - 1) for field in fields))


def some_row(chance, book, first, second):
    while True:
        names = list("stuvwxyz")
        shape = held_shape(chance, book, first, 3, names)
        if chance.randint(0, 4) == 0:
            shape = ("either", (shape, shape))
        if is_shape(book, first, shape):
            break
    pairs = names_held(book, first, shape)
    guard = chance_guard(chance, [name for name, kind in pairs if kind == "num"])
    return (shape, guard, some_answer(chance, book, second, pairs, 2))


def some_cases(chance, book, kinds):
    rows = [some_row(chance, book, *kinds) for number in range(chance.randint(0, 4))]
    if rows and chance.randint(0, 1):
        rows.insert(chance.randint(0, len(rows)), (chance.choice(rows)[0], (), chance.choice(rows)[2]))
    cases = (kinds[0], kinds[1], tuple(rows))
    return cases if is_cases(book, cases) else (kinds[0], kinds[1], tuple(rows[:0]))


def told_by(cases, value):
    found = answer_of(cases, value)
    return None if found is None else found[1]


class Scene:
    """A book, two cases of the same kinds, values of the first."""

    def __init__(self, chance, bound):
        while True:
            self.book = chance_book(chance)
            kinds = [name for name in ["num"] + [name for name, makes in self.book] if has_values(self.book, name)]
            self.kinds = (chance.choice(kinds), chance.choice(kinds))
            self.one = some_cases(chance, self.book, self.kinds)
            self.other = some_cases(chance, self.book, self.kinds)
            both = (*self.kinds, self.one[2] + self.other[2])
            if outcomes(self.book, both) <= bound:
                break
        self.values = [some_value(chance, self.book, self.kinds[0], 4) for turn in range(8)]


class WholeTest(unittest.TestCase):
    def scenes(self, seed, count, bound=1500):
        chance = random.Random(seed)
        for number in range(count):
            scene = Scene(chance, bound)
            self.assertTrue(is_book(scene.book))
            kept = copy.deepcopy((scene.book, scene.one, scene.other))
            with self.subTest(book=scene.book, one=scene.one, other=scene.other):
                yield chance, scene
            self.assertEqual((scene.book, scene.one, scene.other), kept)

    def assert_value(self, scene, value):
        self.assertTrue(is_value(scene.book, scene.kinds[0], value))
        self.assertLessEqual(depth_of(value), 30)
        text = written_value(value)
        self.assertEqual(read_value(scene.book, scene.kinds[0], text), value)


class TestQuestions(WholeTest):
    def test_a_value_or_a_paper_never_both(self):
        for chance, scene in self.scenes(101, 250):
            book, cases = scene.book, scene.one
            count = len(cases[2])
            for turn in range(3):
                question = tuple(tuple(chance.choices(range(count), k=chance.randint(0, 2))) if count else () for k in (0, 1))
                self.check_question(scene, question, sought(book, cases, question))
            self.check_question(scene, ((), tuple(range(count))), covered(book, cases))
            for i in range(count):
                self.check_question(scene, ((i,), tuple(range(i))), comes(book, cases, i))
                self.check_question(scene, ((i, 0), ()), meet(book, cases, i, 0))

    def check_question(self, scene, question, answer):
        word, thing = answer
        if word == "value":
            self.assert_value(scene, thing)
            self.assertIs(answers(scene.book, scene.one, question, thing), True)
            self.assertIs(lets(scene.book, scene.one, question, ODDS), False)
        else:
            self.assertEqual(word, "paper")
            self.assertIs(lets(scene.book, scene.one, question, thing), True)
            for value in scene.values:
                self.assertIs(answers(scene.book, scene.one, question, value), False)

    def test_what_is_told_and_what_is_left(self):
        for chance, scene in self.scenes(102, 200):
            book, cases = scene.book, scene.one
            lists = left(book, cases)
            self.assertEqual(len(lists), len({id(facts) for facts in lists}))
            values = scene.values + [met(book, cases[0], facts) for facts in lists]
            for facts in lists:
                self.assertTrue(in_order(book, cases[0], facts))
                self.assertFalse(at_odds(facts))
            for value in values:
                self.assertEqual(told(book, cases, value), answer_of(cases, value))
                meeting = [facts for facts in lists if all(holds(value, fact) for fact in facts)]
                self.assertEqual(len(meeting), 1 if answer_of(cases, value) is None else 0)
            self.assertEqual(covered(book, cases)[0], "value" if lists else "paper")


class TestAlike(WholeTest):
    def test_a_joint_paper_or_a_value_never_both(self):
        seen = {"paper": 0, "value": 0}
        for chance, scene in self.scenes(103, 250):
            rows = list(scene.one[2])
            chance.shuffle(rows)
            for other in (scene.other, (*scene.kinds, tuple(rows))):
                word, thing = alike(scene.book, scene.one, other)
                seen[word] += 1
                if word == "value":
                    self.assert_value(scene, thing)
                    self.assertNotEqual(told_by(scene.one, thing), told_by(other, thing))
                    for paper in (ODDS, ("same",), alike(scene.book, other, other)[1]):
                        self.assertIs(lets_alike(scene.book, scene.one, other, paper), False)
                else:
                    self.assertIs(lets_alike(scene.book, scene.one, other, thing), True)
                    for value in scene.values:
                        self.assertEqual(told_by(scene.one, value), told_by(other, value))
        self.assertGreater(min(seen.values()), 50)


class TestTrees(WholeTest):
    def test_each_right_tree_tells_what_the_rows_tell(self):
        for chance, scene in self.scenes(104, 200):
            book, cases = scene.book, scene.one
            trees = [tree_of(book, cases)]
            try:
                trees.append(least_tree(book, cases)[0])
            except TooMany:
                pass
            for tree in trees:
                self.assertIs(is_right(book, cases, tree), True)
                self.assertIs(is_own(book, cases, tree), True)
                self.assertGreaterEqual(depth(tree), depth(trees[-1]))
                self.assertLessEqual(leaves(tree), outcomes(book, cases))
                for value in scene.values:
                    found = answer_of(cases, value)
                    leaf = ("none",) if found is None else ("row", found[0], line_of(book, cases, found[0], value))
                    self.assertEqual(gone(book, tree, value)[0], leaf)

    def test_least_trees_and_their_papers(self):
        for chance, scene in self.scenes(105, 120, 60):
            book, cases = scene.book, scene.one
            tree, paper = least_tree(book, cases)
            self.assertLessEqual(depth(tree), len(looks_of(book, cases)))
            self.assertEqual(paper is None, depth(tree) == 0)
            if paper is not None:
                for most in range(depth(tree) + 2):
                    self.assertIs(lets_least(book, cases, most, paper), most == depth(tree) - 1)


class TestMoves(WholeTest):
    def test_a_move_is_done_or_refused_with_a_value(self):
        seen = {"done": 0, "refused": 0, "merged": 0, "parted": 0}
        for chance, scene in self.scenes(106, 200):
            book, cases = scene.book, scene.one
            rows = cases[2]
            if len(rows) < 2:
                continue
            i, j = chance.randrange(len(rows) - 1), chance.randrange(len(rows))
            rest = rows[:i] + rows[i + 1:]
            for move, fresh in ((lambda: left_out(book, cases, i), rest),
                                (lambda: exchanged(book, cases, i), rows[:i] + (rows[i + 1], rows[i]) + rows[i + 2:]),
                                (lambda: moved(book, cases, i, j), rest[:j] + (rows[i],) + rest[j:])):
                seen[self.done(scene, move, (*scene.kinds, fresh))] += 1
            for name, move in (("merged", merged), ("parted", parted)):
                try:
                    self.check_alike(scene, move(book, cases, i))
                    seen[name] += 1
                except NoMerge:
                    pass
            self.check_alike(scene, tidied(book, cases)[0])
        self.assertGreater(min(seen.values()), 10, seen)

    def done(self, scene, move, fresh):
        try:
            self.assertEqual(move(), fresh)
        except Changes as change:
            self.assert_value(scene, change.value)
            self.assertNotEqual(told_by(scene.one, change.value), told_by(fresh, change.value))
            return "refused"
        self.check_alike(scene, fresh)
        return "done"

    def check_alike(self, scene, fresh):
        self.assertTrue(is_cases(scene.book, fresh))
        self.assertEqual(alike(scene.book, scene.one, fresh)[0], "paper")
        for value in scene.values:
            self.assertEqual(told_by(scene.one, value), told_by(fresh, value))


class TestTexts(WholeTest):
    def test_texts_and_the_desk(self):
        for chance, scene in self.scenes(107, 200):
            self.assertEqual(read_book(written_book(scene.book)), scene.book)
            desk = Desk(written_book(scene.book))
            for name, cases in (("one", scene.one), ("other", scene.other)):
                self.assertEqual(read_cases(scene.book, written_cases(cases)), cases)
                self.assertEqual(desk.say(f"keep {name}\n{written_cases(cases)}"), f"rows {len(cases[2])}")
                self.assertEqual(desk.say("show " + name), written_cases(cases))
            for value in scene.values:
                found = answer_of(scene.one, value)
                answer = "none" if found is None else f"{found[0]} {written_value(found[1])}"
                self.assertEqual(desk.say("tell one " + written_value(value)), answer)
            word, thing = alike(scene.book, scene.one, scene.other)
            self.assertEqual(desk.say("alike one other"), "yes" if word == "paper" else "no " + written_value(thing))
            word, thing = covered(scene.book, scene.one)
            self.assertEqual(desk.say("covered one"), "yes" if word == "paper" else "no " + written_value(thing))


if __name__ == "__main__":
    unittest.main()
