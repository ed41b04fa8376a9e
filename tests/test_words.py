"""[0.2]: what a word is, what a whole number is."""

import unittest

from shapecourt.words import form_of, is_tuple_of, is_whole, is_word

NO_TEXTS = (0, 1, -1, 10 ** 59, True, False, None, (), ("a",), ("a", "b"), [], ["a"], {}, {"a": 1},
            b"a", b"", set(), object())
WRONG_SIGNS = ("A", "Z", "M", "0", "9", "5", " ", "\n", "\t", "\r", "_", "-", "`", "{", "@", "[", "~", ".",
               "\u00e9", "\u00df", "\u00aa", "\u0430", "\uff41", "\u0131", "\u017f", "\u0000", "\u0301")


class TestIsWord(unittest.TestCase):
    def test_one_to_eight_letters(self):
        for count in range(1, 9):
            with self.subTest(count=count):
                self.assertIs(is_word("abcdefgh"[:count]), True)

    def test_each_letter_alone_and_eight_times(self):
        for letter in "abcdefghijklmnopqrstuvwxyz":
            with self.subTest(letter=letter):
                self.assertIs(is_word(letter), True)
                self.assertIs(is_word(letter * 8), True)

    def test_no_letter_and_nine_letters_and_more(self):
        for text in ("", "abcdefghi", "a" * 9, "a" * 10, "a" * 4000):
            with self.subTest(text=text[:12]):
                self.assertIs(is_word(text), False)

    def test_a_wrong_sign_at_each_place(self):
        for sign in WRONG_SIGNS:
            for text in (sign, sign + "bc", "a" + sign + "c", "ab" + sign, "abc" + sign + "efgh",
                         sign + "bcdefgh", "abcdefg" + sign):
                with self.subTest(text=ascii(text)):
                    self.assertIs(is_word(text), False)

    def test_a_line_end_behind_a_word(self):
        for text in ("a\n", "abcdefg\n", "abcdefgh\n", "\na", "\n"):
            with self.subTest(text=text):
                self.assertIs(is_word(text), False)

    def test_all_other_signs_beneath_256(self):
        for code in range(256):
            with self.subTest(code=code):
                self.assertIs(is_word(chr(code)), 97 <= code <= 122)

    def test_things_that_are_no_texts(self):
        for thing in NO_TEXTS:
            with self.subTest(thing=thing):
                self.assertIs(is_word(thing), False)

    def test_words_of_the_document(self):
        for text in ("num", "any", "make", "held", "either", "true", "none"):
            self.assertIs(is_word(text), True)


class TestIsWhole(unittest.TestCase):
    def test_whole_numbers(self):
        for number in (0, 1, -1, 2, -2, 255, -300, 10 ** 59, 10 ** 60 - 1, -(10 ** 59), 1 - 10 ** 60, 10 ** 70):
            with self.subTest(number=number):
                self.assertIs(is_whole(number), True)

    def test_truths_are_none(self):
        self.assertIs(is_whole(True), False)
        self.assertIs(is_whole(False), False)

    def test_other_things_are_none(self):
        for thing in (None, "", "0", "1", "-1", "a", (), (0,), (1, 2), [], [0], {}, {0: 1}, b"", b"1", set(), object()):
            with self.subTest(thing=thing):
                self.assertIs(is_whole(thing), False)

    def test_the_same_question_has_the_same_answer(self):
        for thing in (0, True, None, "a", "A", (), []):
            self.assertIs(is_whole(thing), is_whole(thing))
            self.assertIs(is_word(thing), is_word(thing))

    def test_a_list_handed_in_is_not_changed(self):
        thing = ["a", [1, "b"]]
        is_whole(thing)
        is_word(thing)
        self.assertEqual(thing, ["a", [1, "b"]])


class TestIsTupleOf(unittest.TestCase):
    def test_counts(self):
        for count, right in ((0, False), (1, True), (2, True), (3, True), (4, False)):
            with self.subTest(count=count):
                self.assertIs(is_tuple_of((0,) * count, 1, 3), right)

    def test_things_that_are_no_tuples(self):
        for thing in ("ab", [1, 2], 2, None, True, {1: 2, 3: 4}):
            with self.subTest(thing=thing):
                self.assertIs(is_tuple_of(thing, 1, 3), False)


class TestFormOf(unittest.TestCase):
    FORMS = (("any", 1), ("num", 3))

    def test_forms(self):
        for thing, word in ((("any",), "any"), (("num", 0, None), "num"), (("num", "any", ()), "num")):
            self.assertEqual(form_of(thing, self.FORMS), word)

    def test_other_things(self):
        for thing in ((), ("any", 0), ("num",), ("num", 0), ("num", 0, 0, 0), ("held", 0, 0), (0, 0, 0), ((),),
                      "any", "num", 0, None, True):
            with self.subTest(thing=thing):
                self.assertIsNone(form_of(thing, self.FORMS))


if __name__ == "__main__":
    unittest.main()
