"""[0.3]: the refusals."""

import unittest

from shapecourt import errors
from shapecourt.errors import Changes, CourtError, NoDeed, NoMerge, NoName, NoRow, NoText, TooMany

REFUSALS = (NoRow, TooMany, Changes, NoMerge, NoText, NoName, NoDeed)


def nest(deep):
    thing = ("leaf",)
    for number in range(deep):
        thing = ("node", thing, number)
    return thing


class TestClasses(unittest.TestCase):
    def test_court_error_is_straight_beneath_value_error(self):
        self.assertEqual(CourtError.__bases__, (ValueError,))

    def test_each_is_straight_beneath_court_error(self):
        for refusal in REFUSALS:
            with self.subTest(refusal.__name__):
                self.assertEqual(refusal.__bases__, (CourtError,))

    def test_each_has_its_name(self):
        for refusal in REFUSALS + (CourtError,):
            self.assertIs(getattr(errors, refusal.__name__), refusal)

    def test_an_object_is_of_its_own_class_alone(self):
        for refusal in REFUSALS:
            raised = refusal("why")
            self.assertIsInstance(raised, CourtError)
            self.assertIsInstance(raised, ValueError)
            for other in REFUSALS:
                with self.subTest(f"{refusal.__name__} and {other.__name__}"):
                    self.assertEqual(isinstance(raised, other), other is refusal)

    def test_a_court_error_is_none_of_the_refusals(self):
        for refusal in REFUSALS:
            self.assertNotIsInstance(CourtError("why"), refusal)

    def test_each_is_raised_and_caught_by_its_own_name_and_those_above(self):
        for refusal in REFUSALS:
            for caught in (refusal, CourtError, ValueError):
                with self.subTest(f"{refusal.__name__} as {caught.__name__}"):
                    with self.assertRaises(caught):
                        raise refusal("why")

    def test_each_is_made_of_one_text(self):
        for refusal in REFUSALS + (CourtError,):
            if refusal is not Changes:
                with self.subTest(refusal.__name__):
                    self.assertEqual(str(refusal("row 7 is none")), "row 7 is none")


class TestChanges(unittest.TestCase):
    def test_keeps_its_value(self):
        values = (0, 5, -3, 10 ** 59, -(10 ** 60 - 1), ("leaf",),
                  ("node", ("leaf",), -3, ("node", ("leaf",), 0, ("leaf",))), nest(30))
        for value in values:
            with self.subTest(value=value):
                self.assertEqual(Changes(value).value, value)

    def test_keeps_the_kind_of_value(self):
        self.assertIs(type(Changes(0).value), int)
        self.assertIs(type(Changes(("leaf",)).value), tuple)

    def test_each_object_keeps_its_own(self):
        one, other = Changes(1), Changes(("leaf",))
        self.assertEqual((one.value, other.value), (1, ("leaf",)))

    def test_a_caught_one_has_its_value(self):
        try:
            raise Changes(("node", ("leaf",), 4))
        except CourtError as caught:
            self.assertEqual(caught.value, ("node", ("leaf",), 4))

    def test_any_value_lets_it_be_shown(self):
        for value in (10 ** 5000, nest(2000)):
            self.assertIsInstance(str(Changes(value)), str)

    def test_is_made_of_just_one_thing(self):
        self.assertRaises(TypeError, Changes)
        self.assertRaises(TypeError, Changes, 1, 2)


if __name__ == "__main__":
    unittest.main()
