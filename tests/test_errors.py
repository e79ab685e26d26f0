"""The refusals: their places under FoldError and their fields."""

import unittest

from restfold import errors

OF_A_TEXT = ["BadClock", "BadTurn", "NoClock", "TooMany", "BadWall"]
WITH_FIELDS = ["Never", "BadText"]


class Places(unittest.TestCase):
    def test_fold_error_is_a_value_error(self):
        self.assertEqual(errors.FoldError.__bases__, (ValueError,))

    def test_each_other_is_straight_under_fold_error(self):
        for name in OF_A_TEXT + WITH_FIELDS:
            with self.subTest(name):
                self.assertEqual(getattr(errors, name).__bases__, (errors.FoldError,))

    def test_none_is_under_another(self):
        kinds = [getattr(errors, name) for name in OF_A_TEXT + WITH_FIELDS]
        for one in kinds:
            for other in kinds:
                self.assertEqual(issubclass(one, other), one is other)

    def test_all_are_defined_in_errors(self):
        for name in ["FoldError"] + OF_A_TEXT + WITH_FIELDS:
            kind = getattr(errors, name)
            self.assertEqual((kind.__module__, kind.__name__), ("restfold.errors", name))


class Made(unittest.TestCase):
    def test_made_of_a_text(self):
        for name in ["FoldError"] + OF_A_TEXT:
            with self.subTest(name):
                self.assertEqual(str(getattr(errors, name)("as told")), "as told")

    def test_never_has_one_and_other(self):
        error = errors.Never(3, 17)
        self.assertEqual((error.one, error.other), (3, 17))

    def test_never_by_names(self):
        error = errors.Never(other=3, one=17)
        self.assertEqual((error.one, error.other), (17, 3))

    def test_bad_text_has_row(self):
        for row in [0, 1, 62]:
            self.assertEqual(errors.BadText(row).row, row)
        self.assertEqual(errors.BadText(row=5).row, 5)

    def test_each_object_has_its_own_fields(self):
        first, second = errors.Never(1, 2), errors.Never(3, 4)
        self.assertEqual((first.one, first.other, second.one, second.other), (1, 2, 3, 4))
        early, late = errors.BadText(1), errors.BadText(2)
        self.assertEqual((early.row, late.row), (1, 2))

    def test_fields_are_set_when_the_object_is_made(self):
        self.assertEqual(vars(errors.Never(1, 2)), {"one": 1, "other": 2})
        self.assertEqual(vars(errors.BadText(4)), {"row": 4})

    def test_those_with_fields_want_all_of_them(self):
        for args in [(), (1,), (1, 2, 3)]:
            with self.assertRaises(TypeError):
                errors.Never(*args)
        for args in [(), (1, 2)]:
            with self.assertRaises(TypeError):
                errors.BadText(*args)


class Caught(unittest.TestCase):
    def test_fold_error_catches_each(self):
        made = [getattr(errors, name)("as told") for name in OF_A_TEXT]
        for error in made + [errors.Never(1, 2), errors.BadText(1)]:
            with self.assertRaises(errors.FoldError) as caught:
                raise error
            self.assertIs(caught.exception, error)


if __name__ == "__main__":
    unittest.main()
