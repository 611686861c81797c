"""The text of plans, and plans that are read from texts."""

import unittest

from cutproof.errors import BadLine, BadMarks, BadStep, TooMany
from cutproof.notation import format_step
from cutproof.plans import Plan
from samples import BAD_MARKS, BASES, raises_only
from plan_samples import plans_and_stores

EXAMPLE = "table duty 1\ntable room 1\npair 0 1 left start < start\nkeep 2 1"
STEPS = (
    ("table", "duty", 1), ("table", "room", 1), ("pair", 0, 1, "left", (("start", "<", "start"),)), ("keep", 2, (1,)),
)
# Lines that are not well formed, and lines that are but make no valid step as the third line.
NO_LINES = (
    "", "table duty", "table duty 01", "keep 0 1 x", "keep  0 0", " keep 0 0", "pair 0 1 meet start <", "join 0 1",
)
NO_STEPS = (
    "table duty 2", "table Duty 1", "keep 2 0", "keep 3 0", "same 0 0 1", "union 0 9", "when 0 now < 0", "clip 0 1 0",
)


class Text(unittest.TestCase):
    def test_the_example_of_the_document(self):
        self.assertEqual(Plan(STEPS).text, EXAMPLE)
        plan = Plan.read(EXAMPLE)
        self.assertEqual((plan.steps, plan.marks, plan.columns, plan.names), (STEPS, (), 1, ("duty", "room")))
        self.assertEqual((plan.width, plan.text), (2, EXAMPLE))

    def test_there_and_back(self):
        for plan, store in plans_and_stores(60):
            text = plan.text
            self.assertEqual(text, "\n".join([format_step(step) for step in plan.steps]))
            self.assertIs(type(text), str)
            marks = plan.marks
            for again in (Plan.read(text, marks), plan.read(text, list(marks)), Plan.read(text, marks=marks)):
                self.assertIs(type(again), Plan)
                self.assertEqual((again.steps, again.marks), (plan.steps, plan.marks))
                self.assertEqual((again.columns, again.names), (plan.columns, plan.names))
                self.assertEqual((again.width, again.text), (plan.width, text))
                self.assertEqual(again(store), plan(store))
            if not plan.marks:
                again = Plan.read(text)
                self.assertEqual((again.steps, again.marks, again(store)), (plan.steps, (), plan(store)))

    def test_marks_are_no_part_of_the_text(self):
        plan = Plan([STEPS[0], ("clip", 0, 0, 1)], [3, 10**29])
        self.assertEqual(plan.text, "table duty 1\nclip 0 0 1")
        plan.marks = (4, 5)
        self.assertEqual(plan.text, "table duty 1\nclip 0 0 1")


class WrongTexts(unittest.TestCase):
    def bad_line(self, number, lines, marks=(), from_step=False):
        error = raises_only(self, BadLine, lambda: Plan.read("\n".join(lines), marks))
        self.assertEqual(error.number, number, lines)
        self.assertIs(type(error.number), int)
        if from_step:
            self.assertIs(type(error.__cause__), BadStep)
            self.assertEqual(error.__cause__.number, number - 1)
        else:
            self.assertIsNone(error.__cause__)

    def test_a_line_that_is_not_well_formed(self):
        lines = EXAMPLE.split("\n")
        for at in range(5):
            for line in NO_LINES:
                self.bad_line(at + 1, [*lines[:at], line, *lines[at:]])

    def test_a_token_more(self):
        lines = EXAMPLE.split("\n")
        for at in range(3):
            self.bad_line(at + 1, [*lines[:at], lines[at] + " 1", *lines[at + 1:]])
            self.bad_line(at + 1, [*lines[:at], lines[at] + " ", *lines[at + 1:]])

    def test_the_first_line_that_is_not_well_formed(self):
        lines = EXAMPLE.split("\n")
        for first in range(4):
            for second in range(first + 1, 4):
                self.bad_line(first + 1, ["" if at in (first, second) else lines[at] for at in range(4)])

    def test_form_comes_before_steps(self):
        lines = EXAMPLE.split("\n")
        for step in NO_STEPS:
            self.bad_line(4, [*lines[:2], step, "keep 0"])
            self.bad_line(3, [*lines[:2], "keep 0", step])
            self.bad_line(2, [lines[0], "keep 0", step])

    def test_a_line_that_is_no_valid_step(self):
        lines = EXAMPLE.split("\n")
        for step in NO_STEPS:
            self.bad_line(3, [*lines[:2], step], from_step=True)
            self.bad_line(3, [*lines[:2], step, *lines[:1]], from_step=True)
            self.bad_line(3, [*lines[:2], step, step], from_step=True)
        self.bad_line(1, ["union 0 0"], from_step=True)
        self.bad_line(2, [lines[0], "same 1 0 0", lines[1]], from_step=True)
        self.bad_line(2, [lines[0], "when 0 start < 1"], [8], from_step=True)

    def test_line_feeds_and_the_empty_text(self):
        self.bad_line(1, [""])
        self.bad_line(1, ["", ""])
        self.bad_line(5, [EXAMPLE, ""])
        self.bad_line(1, ["", EXAMPLE])
        self.bad_line(3, ["table duty 1", "table room 1", "", "keep 0 0"])
        self.bad_line(1, [""], [3, 3])

    def test_too_many_lines(self):
        lines = ["table duty 1"] * 12
        self.assertEqual(len(Plan.read("\n".join(lines)).steps), 12)
        for marks in ((), (3, 3)):
            raises_only(self, TooMany, lambda: Plan.read("\n".join([*lines, "table duty 1"]), marks))
            raises_only(self, TooMany, lambda: Plan.read("\n".join(["union 5 5", *lines]), marks))
            self.bad_line(13, [*lines, ""], marks)
            self.bad_line(14, [*lines, "table duty 2", "table"], marks)

    def test_bad_marks(self):
        for base in BASES:
            for some in BAD_MARKS:
                marks = [base + mark for mark in some]
                raises_only(self, BadMarks, lambda: Plan.read(EXAMPLE, marks))
                raises_only(self, BadMarks, lambda: Plan.read("union 0 0\nkeep 0 0", marks))
                self.bad_line(2, ["union 0 0", "keep 0"], marks)

    def test_beyond_a_bound(self):
        raises_only(self, TooMany, lambda: Plan.read("table duty 1\nkeep 0 0 0 0 0 0 0 0"))
        raises_only(self, TooMany, lambda: Plan.read("table a 1\ntable b 1\ntable c 1\ntable d 1\nkeep 9 9"))
        self.bad_line(2, ["table a 1", "keep 0 0 0 0 0 0 0 1"], from_step=True)
        raises_only(self, TooMany, lambda: Plan.read(EXAMPLE, (1, 2, 3)))


if __name__ == "__main__":
    unittest.main()
