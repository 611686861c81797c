"""The names and arguments of the interface, each defined in the file that lists it."""

import inspect
import unittest

from cutproof import intervals, judge, notation, orders, plans, readings, tables, work
from samples import BASES

# For each module its functions and, for each class, the methods that the class itself defines.
FUNCTIONS = {
    tables: {"rows_at": ["rows", "moment"], "merge_rows": ["rows"], "first_change": ["before", "after"]},
    orders: {"patterns": ["count", "marks"], "cut_patterns": ["count", "marks"]},
    notation: {"format_step": ["step"], "parse_step": ["line", "number"]},
    plans: {"united": ["first", "others"], "paired": ["left", "right", "tests", "span"]},
    readings: {"readings": ["plan"], "reading_row": ["plan", "number", "rows"]},
    work: {
        "shown": ["plan", "store", "name", "row", "at"],
        "timeline": ["plan", "store"], "answer_at": ["plan", "store", "moment"],
    },
    judge: {
        "leak": ["plan", "merged"], "least_merge_sets": ["plan"], "why_needed": ["plan", "names"],
        "stable_answer": ["plan", "store"], "difference": ["one", "two"], "idle_tests": ["plan"],
    },
}
METHODS = {
    intervals: {
        "Interval": {
            "__init__": ["self", "start", "stop"],
            "cut": ["self", "at"],
            "__contains__": None, "__bool__": None, "__eq__": None, "__lt__": None, "__le__": None,
            "__and__": None, "__sub__": None, "__or__": None,
        },
    },
    tables: {
        "Table": {
            "__init__": ["self", "columns", "rows"],
            "__contains__": None, "__len__": None, "__iter__": None, "__getitem__": None, "__setitem__": None,
            "snapshot": ["self", "moment"],
            "merged": ["self"],
            "says_same": ["self", "other"],
            "cut": ["self", "row", "at"],
            "after_cut": ["self", "row", "at"],
            "lines": ["self"],
        },
    },
    orders: {"Order": {"tight": ["numbers", "marks"], "same": ["one", "two", "marks"]}},
    plans: {
        "Plan": {
            "__init__": ["self", "steps", "marks"],
            "read": ["text", "marks"],
            "change_marks": ["self", "marks"],
            "without": ["self", "number", "index"],
            "__call__": ["self", "store"],
        },
    },
}
PROPERTIES = {tables.Table: ["is_merged"], plans.Plan: ["marks", "width", "text"]}
STATIC = {orders.Order: ["tight", "same"], plans.Plan: ["read"]}
DEFAULTS = (
    (tables.Table, "rows", ()), (plans.Plan, "marks", ()), (plans.Plan.read, "marks", ()),
    (orders.Order.tight, "marks", ()), (orders.Order.same, "marks", ()),
    (orders.patterns, "marks", ()), (orders.cut_patterns, "marks", ()),
    (notation.parse_step, "number", 1), (plans.paired, "span", "meet"),
    (judge.leak, "merged", ()),
)


def arguments(function):
    return list(inspect.signature(function).parameters)


class Interface(unittest.TestCase):
    def test_functions(self):
        for module, functions in FUNCTIONS.items():
            for name, expected in functions.items():
                function = getattr(module, name)
                self.assertEqual(function.__module__, module.__name__, name)
                self.assertEqual(arguments(function), expected, name)

    def test_methods_stand_in_the_class_itself(self):
        for module, classes in METHODS.items():
            for name, methods in classes.items():
                own = getattr(module, name)
                self.assertEqual(own.__module__, module.__name__, name)
                for method, expected in methods.items():
                    self.assertIn(method, vars(own), name)
                    if expected is not None:
                        self.assertEqual(arguments(inspect.getattr_static(own, method)), expected, method)

    def test_properties(self):
        for own, names in PROPERTIES.items():
            for name in names:
                self.assertIsInstance(vars(own)[name], property, name)

    def test_static_methods(self):
        for own, names in STATIC.items():
            for name in names:
                self.assertIsInstance(vars(own)[name], staticmethod, name)

    def test_what_may_be_left_out(self):
        for function, name, default in DEFAULTS:
            self.assertEqual(inspect.signature(function).parameters[name].default, default)

    def test_generators(self):
        for function in (orders.patterns, orders.cut_patterns, work.timeline):
            self.assertTrue(inspect.isgeneratorfunction(function))

    def test_stars(self):
        paired, united = inspect.signature(plans.paired).parameters, inspect.signature(plans.united).parameters
        self.assertIs(united["others"].kind, inspect.Parameter.VAR_POSITIONAL)
        self.assertIs(paired["tests"].kind, inspect.Parameter.VAR_POSITIONAL)
        self.assertIs(paired["span"].kind, inspect.Parameter.KEYWORD_ONLY)
        self.assertIs(inspect.signature(judge.leak).parameters["merged"].kind, inspect.Parameter.KEYWORD_ONLY)

    def test_findings(self):
        for name in ("Finding", "Leak", "Difference"):
            self.assertEqual(getattr(judge, name).__module__, judge.__name__)
        self.assertEqual((judge.Leak.__bases__, judge.Difference.__bases__), ((judge.Finding,), (judge.Finding,)))

    def test_fields_of_a_plan(self):
        self.assertLessEqual({"steps", "columns", "names"}, set(vars(plans.Plan([("table", "a", 1)]))))

    def test_sample_moments_have_at_most_thirty_digits(self):
        for base in BASES:
            self.assertLessEqual(max(len(str(abs(base + near))) for near in (-9, 9)), 30)


if __name__ == "__main__":
    unittest.main()
