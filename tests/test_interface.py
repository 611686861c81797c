"""The names and arguments of the interface, each defined in the file that lists it."""

import inspect
import unittest

from cutproof import intervals, tables
from samples import BASES

# For each module its functions and, for each class, the methods that the class itself defines.
FUNCTIONS = {
    tables: {"rows_at": ["rows", "moment"], "merge_rows": ["rows"], "first_change": ["before", "after"]},
}
METHODS = {
    intervals: {
        "Interval": {
            "__init__": ["self", "start", "stop"],
            "cut": ["self", "at"],
            "__contains__": None, "__bool__": None, "__eq__": None, "__lt__": None, "__le__": None,
            "__and__": None, "__sub__": None, "__or__": None,
        },
    },
    tables: {
        "Table": {
            "__init__": ["self", "columns", "rows"],
            "__contains__": None, "__len__": None, "__iter__": None, "__getitem__": None, "__setitem__": None,
            "snapshot": ["self", "moment"],
            "merged": ["self"],
            "says_same": ["self", "other"],
            "cut": ["self", "row", "at"],
            "after_cut": ["self", "row", "at"],
            "lines": ["self"],
        },
    },
}


def arguments(function):
    return list(inspect.signature(function).parameters)


class Interface(unittest.TestCase):
    def test_functions(self):
        for module, functions in FUNCTIONS.items():
            for name, expected in functions.items():
                function = getattr(module, name)
                self.assertEqual(function.__module__, module.__name__, name)
                self.assertEqual(arguments(function), expected, name)

    def test_methods_stand_in_the_class_itself(self):
        for module, classes in METHODS.items():
            for name, methods in classes.items():
                own = getattr(module, name)
                self.assertEqual(own.__module__, module.__name__, name)
                for method, expected in methods.items():
                    self.assertIn(method, vars(own), name)
                    if expected is not None:
                        self.assertEqual(arguments(vars(own)[method]), expected, method)

    def test_is_merged_is_a_property(self):
        self.assertIsInstance(vars(tables.Table)["is_merged"], property)

    def test_rows_may_be_left_out(self):
        self.assertEqual(inspect.signature(tables.Table).parameters["rows"].default, ())

    def test_sample_moments_have_at_most_thirty_digits(self):
        for base in BASES:
            self.assertLessEqual(max(len(str(abs(base + near))) for near in (-9, 9)), 30)


if __name__ == "__main__":
    unittest.main()
