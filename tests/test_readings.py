"""The readings of plans, and the rows that they tell."""

import itertools
import unittest

from cutproof.errors import Mismatch, NoReading
from cutproof.plans import Plan, paired, united
from cutproof.readings import reading_row, readings
from plan_samples import plans_and_stores, rows_of, slow_readings
from samples import BASES, is_plain, raises_only

DUTY, ROOM, X9 = ("table", "duty", 1), ("table", "room", 2), ("table", "x9", 1)


class Readings(unittest.TestCase):
    def test_by_hand(self):
        for steps, expected in (
            ([DUTY], [("duty",)]),
            ([DUTY, ROOM], [("room",)]),
            ([ROOM, ("keep", 0, (1,)), ("is", 1, 0, "a"), ("same", 2, 0, 0)], [("room",)]),
            ([DUTY, X9, ("union", 0, 1)], [("duty",), ("x9",)]),
            ([DUTY, X9, ("union", 1, 0), ("union", 2, 2)], [("x9",), ("duty",), ("x9",), ("duty",)]),
            ([DUTY, ROOM, ("pair", 1, 0, "meet", ())], [("room", "duty")]),
            ([DUTY, ROOM, ("pair", 0, 1, "gap", ()), ("pair", 2, 0, "meet", ())], [("duty", "room", "duty")]),
            ([DUTY, X9, ("union", 0, 1), ("pair", 2, 0, "hull", ())], [("duty", "duty"), ("x9", "duty")]),
            ([DUTY, ROOM, ("pair", 0, 1, "meet", ()), ("keep", 2, (0,)), X9, ("union", 3, 4), ("union", 5, 0)],
             [("duty", "room"), ("x9",), ("duty",)]),
            ([DUTY, X9, ("union", 0, 1), ("pair", 0, 2, "hull", ())], [("duty", "duty"), ("duty", "x9")]),
            # Left readings change last: each one is combined with all right ones in order.
            ([DUTY, X9, ("union", 0, 1), ("keep", 2, (0,)), ROOM, ("pair", 4, 3, "left", ())],
             [("room", "duty"), ("room", "x9")]),
        ):
            plan = Plan(steps)
            self.assertEqual(readings(plan), expected)
            self.assertEqual(plan.width, max(len(places) for places in expected))

    def test_a_pair_of_unions(self):
        # Four readings of two places would be eight places, so one of the sides is a table of its own.
        steps = [DUTY, X9, ("union", 0, 1), ("union", 2, 0), ROOM, ("pair", 3, 4, "meet", ())]
        self.assertEqual(readings(Plan(steps)), [("duty", "room"), ("x9", "room"), ("duty", "room")])
        steps = [DUTY, X9, ("union", 0, 1), ("union", 2, 0), ROOM, ("pair", 4, 3, "meet", ())]
        self.assertEqual(readings(Plan(steps)), [("room", "duty"), ("room", "x9"), ("room", "duty")])

    def test_random_plans(self):
        for plan, _ in plans_and_stores(150):
            found = readings(plan)
            expected = [places for places, _ in slow_readings(plan.steps, plan.marks, len(plan.steps) - 1)]
            self.assertEqual(found, expected)
            self.assertEqual(plan.width, max(len(places) for places in found))
            self.assertTrue(type(found) is list and is_plain(found))
            self.assertTrue(all(type(places) is tuple for places in found))
            found.clear()
            self.assertEqual(readings(plan), expected)


class ReadingRows(unittest.TestCase):
    def test_by_hand(self):
        for base in BASES:
            ann, hall = (("ann",), base + 1, base + 5), (("hall",), base + 3, base + 6)
            steps = [("table", "duty", 1), ("table", "room", 1), ("pair", 0, 1, "left", (("start", "<", "start"),))]
            self.assertEqual(reading_row(Plan(steps), 0, [ann, hall]), (("ann", "hall"), base + 1, base + 5))
            self.assertIsNone(reading_row(Plan(steps), 0, (hall, ann)))
            self.assertIsNone(reading_row(Plan(steps), 0, (ann, ann)))
            kept = Plan([*steps, ("keep", 2, (1,)), ("union", 3, 0)])
            self.assertEqual(reading_row(kept, 0, (ann, hall)), (("hall",), base + 1, base + 5))
            self.assertEqual(reading_row(kept, 1, [ann]), ann)
            clip = Plan([("table", "duty", 1), ("clip", 0, 0, 1), ("when", 1, "stop", "=", 1)], (base, base + 4))
            self.assertEqual(reading_row(clip, 0, [ann]), (("ann",), base + 1, base + 4))
            self.assertIsNone(reading_row(clip, 0, [(("ann",), base, base + 3)]))
            self.assertIsNone(reading_row(clip, 0, [(("ann",), base + 4, base + 5)]))

    def test_the_answer_is_what_the_readings_tell(self):
        for plan, store in plans_and_stores(120, 4):
            before, told = rows_of(store), set()
            for number, places in enumerate(readings(plan)):
                for kind in (list, tuple):
                    for chosen in itertools.product(*[list(store[name]) for name in places]):
                        rows = kind(chosen)
                        row = reading_row(plan, number, rows)
                        self.assertEqual(rows, kind(chosen))
                        self.assertTrue(row is None or (type(row) is tuple and is_plain(row)))
                        told.add(row)
            self.assertEqual(sorted(told - {None}), plan(store), plan.text)
            self.assertEqual(rows_of(store), before)

    def test_each_reading_tells_its_own_rows(self):
        for plan, store in plans_and_stores(60, 3):
            for number, (places, tell) in enumerate(slow_readings(plan.steps, plan.marks, len(plan.steps) - 1)):
                for chosen in itertools.product(*[list(store[name]) for name in places]):
                    self.assertEqual(reading_row(plan, number, chosen), tell(chosen))

    def test_marks_that_were_changed(self):
        plan = Plan([DUTY, ("when", 0, "start", "<", 0)], [3])
        row = (("a",), 3, 5)
        self.assertIsNone(reading_row(plan, 0, [row]))
        plan.marks = [4]
        self.assertEqual(reading_row(plan, 0, [row]), row)

    def test_rows_of_derived_kinds(self):
        class Word(str):
            pass

        class Moment(int):
            pass

        row = ((Word("a"),), Moment(2), Moment(9))
        for steps in ([DUTY], [DUTY, ("pair", 0, 0, "hull", ())]):
            plan = Plan(steps)
            self.assertTrue(is_plain(reading_row(plan, 0, [row] * plan.width)))


class WrongReadings(unittest.TestCase):
    def test_numbers_that_no_reading_has(self):
        row = (("a",), 0, 4)
        for plan, many in (
            (Plan([DUTY]), 1), (united(*[Plan([DUTY])] * 3), 3), (paired(Plan([DUTY]), Plan([DUTY])), 1),
        ):
            for number in (-1, -many, -many - 1, many, many + 1, 10**9):
                for rows in ([], [row], [row, row], (row, row, row)):
                    raises_only(self, NoReading, lambda: reading_row(plan, number, rows))

    def test_too_many_or_too_few_rows(self):
        row = (("a",), 0, 4)
        one = Plan([DUTY])
        plan = united(paired(one, one, span="hull"), paired(one, one))
        plan = Plan([*plan.steps, ("keep", len(plan.steps) - 1, (0,)), ("union", len(plan.steps), 0)])
        for number, places in enumerate(readings(plan)):
            self.assertIsNotNone(reading_row(plan, number, [row] * len(places)))
            for many in range(5):
                if many != len(places):
                    for kind in (list, tuple):
                        raises_only(self, Mismatch, lambda: reading_row(plan, number, kind([row] * many)))


if __name__ == "__main__":
    unittest.main()
