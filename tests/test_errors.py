import unittest

from cutproof import errors

PLAIN = ("Apart", "BadPlace", "BadTable", "BadRow", "NoRow", "BadMarks", "NoTest", "NoReading", "Mismatch", "TooMany")
WITH_NUMBER = ("BadStep", "BadLine")
WITH_NAME = ("NoTable", "WrongColumns")


def own_classes():
    return [value for value in vars(errors).values() if isinstance(value, type)]


class ErrorClasses(unittest.TestCase):
    def test_there_is_one_class_for_each_name(self):
        names = {own.__name__ for own in own_classes()}
        self.assertEqual(names, {"CutError", *PLAIN, *WITH_NUMBER, *WITH_NAME})
        for own in own_classes():
            self.assertEqual(own.__module__, "cutproof.errors")

    def test_the_base_is_a_value_error(self):
        self.assertEqual(errors.CutError.__bases__, (ValueError,))

    def test_each_other_class_is_a_direct_subclass_of_the_base(self):
        for name in PLAIN + WITH_NUMBER + WITH_NAME:
            self.assertEqual(getattr(errors, name).__bases__, (errors.CutError,), name)

    def test_no_class_is_caught_as_another_one(self):
        for own in own_classes():
            for other in own_classes():
                related = own is other or other is errors.CutError
                self.assertEqual(issubclass(own, other), related, (own, other))

    def test_errors_are_raised_and_caught_by_name(self):
        for name in PLAIN:
            kind = getattr(errors, name)
            for caught in (kind, errors.CutError, ValueError):
                with self.assertRaises(caught):
                    raise kind("some words")

    def test_the_field_number(self):
        for name in WITH_NUMBER:
            for number in (0, 1, 11, 99):
                error = getattr(errors, name)(number)
                self.assertEqual(error.number, number)
                self.assertIs(type(error.number), int)
                self.assertIs(type(str(error)), str)

    def test_the_field_name(self):
        for name in WITH_NAME:
            for table in ("duty", "a", "0", "abcdefghijkl"):
                error = getattr(errors, name)(table)
                self.assertEqual(error.name, table)
                self.assertIs(type(str(error)), str)


if __name__ == "__main__":
    unittest.main()
