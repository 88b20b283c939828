import copy
import unittest

from oncecoin import errors
from tests.helper import ODD_VALUES, kinds

PARAMETERS = {
    "InvalidDeed": ("deed",),
    "InvalidValue": ("given",),
    "InvalidText": ("text", "at"),
    "InvalidNumber": ("number",),
    "NoKey": ("key",),
    "Twice": ("deed_id",),
    "NotGranted": ("deed_id",),
    "NoLetter": ("number",),
    "NoActor": ("name",),
    "Busy": ("customer",),
    "Torn": ("text",),
    "BadBook": ("texts",),
    "NoOrder": ("ids",),
}


class ErrorsTest(unittest.TestCase):
    """[3]"""

    def test_shop_error_is_a_value_error(self):
        self.assertEqual(errors.ShopError.__bases__, (ValueError,))

    def test_there_are_thirteen_errors_each_directly_under_shop_error(self):
        self.assertEqual(len(PARAMETERS), 13)
        for word in PARAMETERS:
            with self.subTest(word):
                self.assertEqual(getattr(errors, word).__bases__, (errors.ShopError,))

    def test_each_error_is_caught_as_itself_and_as_none_of_the_others(self):
        for word, names in PARAMETERS.items():
            error = getattr(errors, word)(*names)
            self.assertIsInstance(error, errors.ShopError)
            self.assertIsInstance(error, ValueError)
            for other in PARAMETERS:
                with self.subTest(word, other=other):
                    self.assertEqual(isinstance(error, getattr(errors, other)), other == word)

    def test_arguments_are_kept_by_position(self):
        for word, names in PARAMETERS.items():
            for value in ODD_VALUES:
                given = [value, (value, 7)][:len(names)]
                self.check_kept(getattr(errors, word)(*given), names, given)

    def test_arguments_are_kept_by_name(self):
        for word, names in PARAMETERS.items():
            for value in ODD_VALUES:
                given = [value, (value, 7)][:len(names)]
                self.check_kept(getattr(errors, word)(**dict(zip(names, given))), names, given)

    def check_kept(self, error, names, given):
        with self.subTest(type(error).__name__):
            for name, value in zip(names, given):
                self.assertIs(getattr(error, name), value)

    def test_invalid_text_takes_its_second_argument_by_name(self):
        error = errors.InvalidText("007", at=1)
        self.assertEqual((error.text, error.at), ("007", 1))

    def test_arguments_may_not_be_left_out_or_added(self):
        for word, names in PARAMETERS.items():
            with self.subTest(word):
                with self.assertRaises(TypeError):
                    getattr(errors, word)(*names[1:])
                with self.assertRaises(TypeError):
                    getattr(errors, word)(*names, None)

    def test_arguments_stay_as_they_were(self):
        for word, names in PARAMETERS.items():
            for value in ODD_VALUES:
                given = copy.deepcopy([value] * len(names))
                getattr(errors, word)(*given)
                self.assertEqual(kinds(given), kinds([value] * len(names)))

    def test_errors_are_raised_with_their_arguments(self):
        for word, names in PARAMETERS.items():
            with self.subTest(word), self.assertRaises(errors.ShopError) as caught:
                raise getattr(errors, word)(*names)
            for name in names:
                self.assertEqual(getattr(caught.exception, name), name)


if __name__ == "__main__":
    unittest.main()
