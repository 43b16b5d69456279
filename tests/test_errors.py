"""The errors: their names, their base and their fields."""

import unittest

from fateboards import errors

WITHOUT_FIELDS = (
    "BadRule", "BadNumber", "Clash", "NotText", "BadMove", "BadPiece", "BadPaper", "NoFate", "NothingToUndo",
    "Unasked", "BadPicture",
)
FIELDS = {"BadBoard": "index", "TooMany": "most", "InvalidText": "place", "TooEarly": "first"}


class ErrorsTest(unittest.TestCase):

    def test_base_is_a_value_error(self):
        self.assertEqual(errors.BoardError.__bases__, (ValueError,))

    def test_all_others_are_direct_subclasses(self):
        for name in WITHOUT_FIELDS + tuple(FIELDS):
            with self.subTest(name=name):
                self.assertEqual(getattr(errors, name).__bases__, (errors.BoardError,))

    def test_all_are_defined_in_this_file(self):
        for name in ("BoardError",) + WITHOUT_FIELDS + tuple(FIELDS):
            with self.subTest(name=name):
                self.assertEqual(getattr(errors, name).__module__, "fateboards.errors")

    def test_errors_without_fields_need_no_argument(self):
        for name in ("BoardError",) + WITHOUT_FIELDS:
            with self.subTest(name=name):
                with self.assertRaises(errors.BoardError) as caught:
                    raise getattr(errors, name)()
                self.assertEqual(vars(caught.exception), {})

    def test_fields_are_set_on_the_object(self):
        for name, field in FIELDS.items():
            for value in (0, 7, 10 ** 60):
                with self.subTest(name=name, value=value):
                    self.assertEqual(vars(getattr(errors, name)(value)), {field: value})

    def test_index_may_be_none(self):
        self.assertEqual(vars(errors.BadBoard(None)), {"index": None})


if __name__ == "__main__":
    unittest.main()
