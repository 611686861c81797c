"""Which plans can be made, what they keep, and the errors for all others."""

import unittest

from cutproof.errors import BadLine, BadMarks, BadStep, CutError, TooMany
from cutproof.plans import Plan
from samples import BAD_MARKS, BASES, is_plain, raises_only
from plan_samples import plans_and_stores

A, B, TWO = ("table", "a", 1), ("table", "b", 1), ("table", "c", 2)
MARKS = (0, 5)
# Steps 0 to 3, before the step that is tried as step 4: one column, one column, two columns, three columns.
BEFORE = (A, B, TWO, ("pair", 1, 2, "meet", ()))

GOOD = (
    ("table", "a", 1), ("table", "c", 2), ("table", "abcdefghij12", 1), ("table", "0", 2),
    ("same", 2, 0, 1), ("same", 3, 2, 0), ("same", 0, 0, 0),
    ("is", 0, 0, "a"), ("is", 3, 2, "abcdefghij12"), ("is", 3, 0, "7"),
    ("when", 0, "start", "<", 0), ("when", 3, "stop", ">", 1), ("when", 3, "stop", "<=", 0),
    ("when", 2, "start", ">=", 1), ("when", 2, "start", "=", 1),
    ("clip", 0, 0, 1), ("clip", 3, 0, 1),
    ("pair", 0, 1, "meet", ()), ("pair", 1, 1, "hull", (("start", "<", "stop"),)), ("pair", 0, 0, "left", ()),
    ("pair", 0, 2, "right", (("stop", ">=", "start"), ("start", "=", "start"), ("stop", "<=", "stop"))),
    ("pair", 2, 0, "gap", (("start", ">", "start"),) * 4),
    ("union", 0, 1), ("union", 2, 2), ("union", 0, 0),
    ("keep", 0, (0,)), ("keep", 3, (2, 0, 1)), ("keep", 2, (1, 1, 1, 1, 1, 1)),
)
NO_KIND = (
    (), ("",), ("tables", "a", 1), ("Table", "a", 1), ("join", 0, 1), ("step",), ("x", None, [], {}), ("tabl", 0, 1),
)
WRONG_LENGTH = (
    ("table",), ("table", "a"), ("table", "a", 1, 1), ("same", 0), ("same", 0, 0), ("same", 0, 0, 0, 0), ("is", 0, 0),
    ("is", 0, 0, "a", "a"), ("when", 0, "start", "<"), ("when", 0, "start", "<", 0, 0), ("clip", 0, 0),
    ("clip", 0, 0, 1, 1), ("pair", 0, 1, "meet"), ("pair", 0, 1), ("pair", 0, 1, "meet", (), ()), ("union", 0),
    ("union", 0, 1, 1), ("union",), ("keep", 0), ("keep", 0, (0,), 0), ("keep",), ("same", [], None),
    ("union", {}, 0, 0),
)
WRONG_STEP = tuple(
    step for wrong in (4, 5, 99, -1, -2, -5, 10**30) for step in (
        ("same", wrong, 0, 0), ("is", wrong, 0, "a"), ("when", wrong, "start", "<", 0), ("clip", wrong, 0, 1),
        ("pair", wrong, 0, "meet", ()), ("pair", 0, wrong, "meet", ()), ("union", wrong, 0), ("union", 0, wrong),
        ("keep", wrong, (0,)),
    )
)
WRONG_COLUMN = (
    ("same", 0, 0, 1), ("same", 0, 1, 0), ("same", 2, 2, 0), ("same", 2, 0, 2), ("same", 3, 0, 3), ("same", 3, 3, 0),
    ("same", 2, -1, 0), ("same", 2, 0, -1),
    ("is", 0, 1, "a"), ("is", 3, 3, "a"), ("is", 2, -1, "a"), ("is", 2, -2, "a"),
    ("keep", 0, (1,)), ("keep", 2, (0, 1, 2)), ("keep", 3, (3, 0)), ("keep", 2, (0, -1)), ("keep", 2, (-1,)),
    ("keep", 0, ()), ("keep", 3, ()),
)
WRONG_WORDS = ("", "A", "a b", "a-b", " a", "a ", "abcdefghij123", "_a", "a.", "-", "~", "aB")
WRONG_WORD = tuple(
    [("table", word, 1) for word in WRONG_WORDS] + [("is", 0, 0, word) for word in WRONG_WORDS]
    + [("table", "d", columns) for columns in (0, 3, -1, -2, 4, 12)]
    + [("table", "a", 2), ("table", "b", 2), ("table", "c", 1), ("table", "a", 3), ("table", "c", 0)]
)
NO_ENDS, NO_OPERATORS = ("", "Start", "begin", "end", "stops", "<"), ("", "==", "!=", "=>", "<>", "<<", "start", "~")
WRONG_NAME = tuple(
    [("when", 0, end, "<", 0) for end in NO_ENDS]
    + [("when", 0, "start", operator, 0) for operator in NO_OPERATORS]
    + [("pair", 0, 1, span, ()) for span in ("", "Meet", "both", "start", "gaps", "<")]
    + [("pair", 0, 1, "meet", ((end, "<", "stop"),)) for end in NO_ENDS]
    + [("pair", 0, 1, "meet", (("start", "<", "stop"), ("start", "<", end))) for end in NO_ENDS]
    + [("pair", 0, 1, "meet", (("start", operator, "stop"),)) for operator in NO_OPERATORS]
    + [("pair", 0, 1, "meet", tests) for tests in (
        ((),), (("start",),), (("start", "<"),), (("start", "<", "stop", "stop"),),
        (("start", "<", "stop"), ()), ((), ("start", "<", "stop")), (("start", "<", "stop"),) * 3 + (("start", "<"),),
    )]
)
WRONG_MARK = (
    ("when", 0, "start", "<", 2), ("when", 0, "start", "<", 3), ("when", 0, "start", "<", -1),
    ("when", 0, "start", "<", -2), ("when", 0, "start", "<", 99),
    ("clip", 0, 0, 2), ("clip", 0, 2, 3), ("clip", 0, -1, 1), ("clip", 0, -2, -1), ("clip", 0, 0, -1),
    ("clip", 0, 0, 0), ("clip", 0, 1, 1), ("clip", 0, 1, 0),
)
WRONG_UNION = (("union", 0, 2), ("union", 2, 1), ("union", 2, 3), ("union", 3, 0))
BAD = NO_KIND + WRONG_LENGTH + WRONG_STEP + WRONG_COLUMN + WRONG_WORD + WRONG_NAME + WRONG_MARK + WRONG_UNION

# What may stand behind a bad step: good steps, other bad ones, and steps beyond a bound.
BEHIND = (
    (), (A,), (("x",),), (("table", "d", 1), ("table", "e", 1)), (("keep", 2, (0,) * 7),),
    (("pair", 3, 3, "meet", ()), ("keep", 0, ())),
)


class Checks(unittest.TestCase):
    def bad_step(self, number, steps, marks=()):
        for kind in (list, tuple):
            error = raises_only(self, BadStep, lambda: Plan(kind(steps), kind(marks)))
            self.assertEqual(error.number, number, steps)
            self.assertIs(type(error.number), int)

    def too_many(self, steps, marks=()):
        for kind in (list, tuple):
            raises_only(self, TooMany, lambda: Plan(kind(steps), kind(marks)))

    def bad_marks(self, steps, marks):
        for kind in (list, tuple):
            raises_only(self, BadMarks, lambda: Plan(kind(steps), kind(marks)))


class Fields(Checks):
    def test_what_a_plan_keeps(self):
        for base in BASES:
            for marks in ((), (base,), (base, base + 1), (base - 1, base, base + 5)):
                for kind in (list, tuple):
                    plan = Plan(kind([A, B]), kind(marks))
                    self.assertEqual((plan.steps, plan.marks), ((A, B), marks))
                    self.assertTrue(type(plan.marks) is tuple and type(plan.steps) is tuple)
        self.assertEqual(Plan([A]).marks, ())
        plan = Plan([A, TWO, ("pair", 0, 1, "meet", ()), ("keep", 2, (2, 0))])
        self.assertEqual(plan.steps, (A, TWO, ("pair", 0, 1, "meet", ()), ("keep", 2, (2, 0))))
        self.assertEqual((plan.columns, plan.names, plan.width, plan.marks), (2, ("a", "c"), 2, ()))

    def test_good_steps(self):
        for step in GOOD:
            steps = [*BEFORE, step] if step[0] != "table" or step in BEFORE else [step]
            plan = Plan(steps, MARKS)
            self.assertEqual(plan.steps, tuple(steps))
            self.assertTrue(is_plain(plan.steps))

    def test_columns_names_and_width(self):
        for steps, columns, names, width in (
            ([A], 1, ("a",), 1),
            ([TWO, A], 1, ("a", "c"), 1),
            ([B, A, B], 1, ("a", "b"), 1),
            ([TWO, B, A], 1, ("a", "b", "c"), 1),
            ([A, TWO, ("pair", 0, 1, "gap", ())], 3, ("a", "c"), 2),
            ([A, ("pair", 0, 0, "gap", ()), ("pair", 1, 0, "gap", ())], 3, ("a",), 3),
            ([A, ("pair", 0, 0, "gap", ()), ("keep", 1, (0,)), ("union", 2, 0)], 1, ("a",), 2),
            ([A, ("pair", 0, 0, "gap", ()), ("keep", 1, (0,)), ("union", 0, 2)], 1, ("a",), 2),
            ([A, ("pair", 0, 0, "gap", ()), ("keep", 1, (1, 0, 1)), ("same", 2, 0, 1)], 3, ("a",), 2),
            ([A, ("pair", 0, 0, "gap", ()), A], 1, ("a",), 1),
            ([TWO, ("keep", 0, (1, 1, 0, 0, 1, 1)), ("is", 1, 5, "z")], 6, ("c",), 1),
        ):
            plan = Plan(steps)
            self.assertEqual((plan.columns, plan.names, plan.width), (columns, names, width))
            self.assertTrue(is_plain([plan.columns, plan.names, plan.width]))

    def test_lists_that_were_passed_may_be_changed(self):
        steps, marks = [A, ("keep", 0, (0,))], [3, 4]
        plan = Plan(steps, marks)
        steps[0], marks[0] = B, 1
        steps.append(A)
        self.assertEqual((plan.steps, plan.marks, plan.names), ((A, ("keep", 0, (0,))), (3, 4), ("a",)))

    def test_steps_of_derived_classes_become_plain_ones(self):
        class Word(str):
            pass

        class Number(int):
            pass

        class Parts(tuple):
            pass

        table = Parts([Word("table"), Word("a"), Number(1)])
        tests = Parts([Parts(map(Word, ("start", "<", "stop")))])
        pair = Parts([Word("pair"), Number(0), Number(0), Word("gap"), tests])
        keep = Parts([Word("keep"), Number(1), Parts([Number(1)])])
        plan = Plan(Parts([table, pair, keep]), Parts([Number(4)]))
        self.assertTrue(is_plain([plan.steps, plan.names, plan.marks, plan.columns, plan.width, plan.text]))
        self.assertEqual(plan.text, "table a 1\npair 0 0 gap start < stop\nkeep 1 1")


class BadSteps(Checks):
    def test_each_bad_step(self):
        self.assertEqual(Plan(BEFORE, MARKS).columns, 3)
        for step in BAD:
            steps = [*BEFORE, step]
            self.bad_step(4, steps, MARKS)
            self.assertEqual(steps, [*BEFORE, step])

    def test_whatever_comes_behind(self):
        for step in BAD:
            for behind in BEHIND:
                self.bad_step(4, [*BEFORE, step, *behind], MARKS)

    def test_a_bad_first_step(self):
        for step in BAD:
            if step[:2] not in (("table", "a"), ("table", "b"), ("table", "c")) or len(step) != 3:
                self.bad_step(0, [step], MARKS)
        for step in (("table", "a", 3), ("same", 0, 0, 0), ("union", 0, 0), ("keep", -1, (0,))):
            self.bad_step(0, [step, A])

    def test_another_size_for_a_table_that_is_not_used(self):
        self.bad_step(2, [A, B, ("table", "a", 2)])
        self.bad_step(3, [TWO, A, B, ("table", "c", 1), ("table", "a", 2)])

    def test_marks_of_which_there_are_none(self):
        self.bad_step(1, [A, ("when", 0, "start", "<", 0)])
        self.bad_step(1, [A, ("clip", 0, 0, 1)])
        self.bad_step(1, [A, ("clip", 0, 0, 1)], [7])
        self.assertEqual(Plan([A, ("when", 0, "start", "<", 0)], [7]).columns, 1)

    def test_a_step_that_refers_to_itself_or_to_a_later_one(self):
        self.bad_step(1, [A, ("union", 1, 0), A])
        self.bad_step(1, [A, ("union", 0, 2), A])

    def test_no_steps(self):
        self.bad_step(0, [])
        self.bad_step(0, [], [3, 3])

    def test_the_error(self):
        self.assertTrue(issubclass(BadStep, CutError) and issubclass(BadStep, ValueError))
        self.assertFalse(issubclass(BadStep, (TooMany, BadLine, BadMarks)))


def hulls(*pairs):
    return [("pair", left, right, "hull", ()) for left, right in pairs]


class Bounds(Checks):
    def at_the_bound(self, steps, marks=()):
        for behind in ([], [A]):
            plan = Plan([*steps, *behind], marks)
            self.assertEqual(plan.steps, (*steps, *behind))

    def beyond_it(self, steps, marks=()):
        for behind in ([], [A], [("x",)], [A, ("keep", 0, (0,))]):
            self.too_many([*steps, *behind], marks)

    def test_steps(self):
        self.assertEqual(len(Plan([A] * 12).steps), 12)
        for many in (13, 14, 40):
            self.too_many([A] * many)

    def test_table_names(self):
        self.at_the_bound([A, B, A, TWO, B])
        self.beyond_it([A, B, TWO, ("table", "d", 1)])
        self.beyond_it([A, B, A, TWO, B, ("table", "d", 2)])

    def test_columns(self):
        for wide in ([TWO, ("keep", 0, (0, 1, 0, 1, 0, 1))], [TWO, *hulls((0, 0), (0, 1))]):
            self.at_the_bound(wide)
        self.beyond_it([TWO, ("keep", 0, (0, 1, 0, 1, 0, 1, 0))])
        self.beyond_it([TWO, ("keep", 0, (0, 0, 1, 1)), ("keep", 0, (0, 1, 0)), *hulls((1, 2))])
        self.at_the_bound([TWO, ("keep", 0, (0, 0, 1)), ("keep", 0, (0, 1, 0)), *hulls((1, 2))])

    def test_tests(self):
        test = ("start", "<", "stop")
        self.at_the_bound([A, ("pair", 0, 0, "left", (test,) * 4)])
        for many in (5, 6, 9):
            self.beyond_it([A, ("pair", 0, 0, "left", (test,) * many)])

    def test_places(self):
        # Unions of one table have as many readings, each of one place.
        unions = [A, ("union", 0, 0), ("union", 1, 0), ("union", 1, 1), ("union", 2, 2), ("union", 2, 3)]
        self.at_the_bound(unions[:5])
        self.beyond_it(unions)
        # Pairs of unions have readings of two places.
        self.at_the_bound([*unions[:3], *hulls((2, 0))])
        self.at_the_bound([*unions[:3], *hulls((0, 2))])
        self.beyond_it([*unions[:2], *hulls((1, 1))])
        self.beyond_it([*unions[:4], *hulls((3, 0))])
        # Two readings of three places; a reading of three and two of two.
        self.at_the_bound([A, *hulls((0, 0), (0, 1)), ("union", 2, 2)])
        self.beyond_it([A, *hulls((0, 0), (0, 1)), ("keep", 1, (0, 1, 1)), ("union", 2, 3), ("union", 4, 3)])
        self.at_the_bound([A, *hulls((0, 0), (0, 1)), ("keep", 1, (0, 1, 1)), ("union", 2, 3)])

    def test_width_and_marks(self):
        widths = [A, *hulls((0, 0), (0, 1), (0, 2))]
        for base in BASES:
            marks = [base + 2 * at for at in range(9)]
            for width, most in ((1, 4), (2, 2), (3, 0)):
                self.at_the_bound(widths[:width], marks[:most])
                self.beyond_it(widths[:width], marks[:most + 1])
                self.beyond_it(widths[:width], marks[:most + 2])
            self.beyond_it(widths[:4], ())

    def test_bounds_hold_for_steps_of_each_kind(self):
        wide = [A, *hulls((0, 0))]
        for step in (
            ("same", 1, 0, 1), ("is", 1, 0, "a"), ("when", 1, "stop", "<", 1), ("clip", 1, 0, 1), ("keep", 1, (0, 1)),
            ("union", 1, 1),
        ):
            self.at_the_bound([*wide, step], [3, 4])
            self.beyond_it([*wide, step], [3, 4, 5])


class OrderOfChecks(Checks):
    def test_no_steps_before_bad_marks(self):
        self.bad_step(0, [], [1, 0])

    def test_thirteen_steps_before_bad_marks_and_bad_steps(self):
        self.too_many([A] * 13, [1, 0])
        self.too_many([("x",)] * 13, [1, 0])
        self.too_many([("x",)] * 13)

    def test_bad_marks(self):
        for base in BASES:
            for marks in BAD_MARKS:
                moved = [base + mark for mark in marks]
                self.bad_marks([A], moved)
                self.bad_marks([("x",), A], moved)
                self.bad_marks([A, B, TWO, ("table", "d", 1)], moved)
                self.bad_marks([("x",)] * 12, moved)
        self.bad_marks([A], [0, 1, 2, 3, 4, 4])

    def test_the_earlier_one_of_two_steps(self):
        seven = ("keep", 0, (0,) * 7)
        self.bad_step(1, [A, ("keep", 0, ()), ("keep", 0, (1,))])
        self.bad_step(1, [A, ("keep", 0, ()), seven])
        self.too_many([A, seven, ("keep", 0, ())])
        self.too_many([A, B, TWO, ("table", "d", 1), ("x",)])
        self.bad_step(3, [A, B, TWO, ("x",), ("table", "d", 1)])
        self.bad_step(0, [("x",), A], list(range(6)))
        self.too_many([A, ("x",)], list(range(6)))

    def test_a_step_that_is_bad_and_beyond_a_bound(self):
        self.bad_step(1, [A, ("keep", 0, (0, 0, 0, 0, 0, 0, 1))])
        self.bad_step(1, [A, ("pair", 0, 0, "meet", (("start", "<", "stop"),) * 4 + (("start", "<"),))])
        self.bad_step(1, [A, ("pair", 0, 0, "both", (("start", "<", "stop"),) * 5)])
        self.bad_step(3, [A, B, TWO, ("table", "d", 3)])
        self.bad_step(3, [A, B, TWO, ("table", "D", 1)])
        self.bad_step(3, [A, *hulls((0, 0), (0, 1)), ("pair", 2, 2, "hull", ((),))])
        self.bad_step(1, [A, ("union", 0, 1)], [3, 4, 5, 6])

    def test_random_plans_are_let(self):
        for plan, _ in plans_and_stores(40):
            again = Plan(list(plan.steps), list(plan.marks))
            self.assertEqual((again.steps, again.marks, again.text), (plan.steps, plan.marks, plan.text))


if __name__ == "__main__":
    unittest.main()
