import copy
import pickle
import unittest

from letterform.errors import BadForm, BadValue, FormError, NoReading, Twofold


class Errors(unittest.TestCase):
    def test_form_error_is_straight_under_value_error(self):
        self.assertEqual(FormError.__bases__, (ValueError,))

    def test_the_others_are_straight_under_form_error(self):
        for kind in (BadForm, BadValue, NoReading, Twofold):
            with self.subTest(kind=kind):
                self.assertEqual(kind.__bases__, (FormError,))

    def test_bad_value_has_its_name(self):
        self.assertEqual(BadValue("town").name, "town")
        self.assertEqual(BadValue("town", "is lacking").name, "town")

    def test_twofold_has_the_first_two_readings(self):
        error = Twofold({"a": "x"}, {"a": "y"})
        self.assertEqual(error.one, {"a": "x"})
        self.assertEqual(error.other, {"a": "y"})

    def test_the_others_are_made_with_and_without_words(self):
        for kind in (FormError, BadForm, NoReading):
            with self.subTest(kind=kind):
                self.assertIsInstance(kind(), FormError)
                self.assertEqual(str(kind("some words")), "some words")

    def test_fields_outlive_a_copy(self):
        for made_again in (copy.copy, lambda error: pickle.loads(pickle.dumps(error))):
            value = made_again(BadValue("town", "is lacking"))
            self.assertEqual((value.name, value.args), ("town", ("town", "is lacking")))
            twofold = made_again(Twofold({"a": "x"}, {"a": "y"}))
            self.assertEqual((twofold.one, twofold.other), ({"a": "x"}, {"a": "y"}))


if __name__ == "__main__":
    unittest.main()
