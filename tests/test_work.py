"""Showing one cut, and the answer over time."""

import random
import unittest

from cutproof.errors import BadPlace, NoRow, NoTable, TooMany, WrongColumns
from cutproof.intervals import Interval
from cutproof.plans import Plan, united
from cutproof.tables import Table
from cutproof.work import answer_at, shown, timeline
from judge_samples import DUTY, ROOM, cuts_of
from plan_samples import SIZES, plans_and_stores, rows_of, slow_answer
from samples import BASES, SEED, is_plain, moments_of, moved, raises_only, slow_change, slow_snapshot

PAIR = [("table", "duty", 1), ("table", "room", 1), ("pair", 0, 1, "left", (("start", "<", "start"),))]


def by_hand(base):
    """The store of the document's example."""
    return {"duty": Table(1, moved([(("ann",), 1, 5)], base)), "room": Table(1, moved([(("hall",), 3, 6)], base))}


def slow_shown(plan, store, name, row, at):
    """The first change, from answers on copies of the store."""
    rows = [other for other in store[name] if other != row]
    pieces = [(row[0], row[1], at), (row[0], at, row[2])]
    cut = {**store, name: Table(SIZES[name], rows + pieces)}
    return slow_change(*[slow_answer(plan.steps, plan.marks, some) for some in (store, cut)])


class Shown(unittest.TestCase):
    def test_the_example_of_the_document(self):
        for base in BASES:
            store = by_hand(base)
            for at, expected in (
                (base + 2, (base + 2, ("ann", "hall"), False)), (base + 3, (base + 3, ("ann", "hall"), True)),
                (base + 4, (base + 4, ("ann", "hall"), True)),
            ):
                change = shown(Plan(PAIR), store, "duty", (("ann",), base + 1, base + 5), at)
                # Where the later piece still starts before the other row, the answer says the same.
                self.assertEqual(change, expected if at > base + 2 else None)
            self.assertIsNone(shown(Plan(PAIR), store, "room", (("hall",), base + 3, base + 6), base + 4))

    def test_data_that_is_new(self):
        for base in BASES:
            plan = Plan([DUTY, ("when", 0, "start", ">=", 0)], [base])
            store = {"duty": Table(1, [(("a",), base - 2, base + 4)])}
            row = (("a",), base - 2, base + 4)
            self.assertIsNone(shown(plan, store, "duty", row, base - 1))
            self.assertEqual(shown(plan, store, "duty", row, base), (base, ("a",), False))
            self.assertEqual(shown(plan, store, "duty", row, base + 2), (base + 2, ("a",), False))

    def test_random_plans(self):
        changes = 0
        for plan, store in plans_and_stores(150, 3):
            before = rows_of(store)
            for name, row, at in list(cuts_of(store, plan.names))[::2]:
                expected = slow_shown(plan, store, name, row, at)
                changes += expected is not None
                for _ in range(2):
                    change = shown(plan, store, name, row, at)
                    self.assertEqual(change, expected)
                    self.assertTrue(change is None or (type(change) is tuple and is_plain(change)))
                    self.assertEqual(rows_of(store), before)
        self.assertGreater(changes, 100)

    def test_a_table_that_the_plan_does_not_name(self):
        plan, row = Plan([DUTY]), (("a", "b"), 0, 4)
        store = {"duty": Table(1, [(("a",), 0, 4)]), "room": Table(2, [row])}
        self.assertIsNone(shown(plan, store, "room", row, 2))
        raises_only(self, NoRow, lambda: shown(plan, store, "room", (("a", "c"), 0, 4), 2))
        raises_only(self, BadPlace, lambda: shown(plan, store, "room", row, 4))
        many = {**store, "room": Table(2, [(("a", "b"), at, at + 4) for at in range(60)])}
        self.assertIsNone(shown(plan, many, "room", row, 2))

    def test_derived_kinds_become_plain(self):
        class Moment(int):
            pass

        class Word(str):
            pass

        store = {"duty": Table(1, [(("a",), 0, 4)])}
        plan = Plan([DUTY, ("when", 0, "start", "<", 0)], [2])
        self.assertTrue(is_plain(shown(plan, store, Word("duty"), ((Word("a"),), Moment(0), Moment(4)), Moment(2))))


class ShownErrors(unittest.TestCase):
    def check(self, store, name, row, at, error, text=None):
        before = rows_of(store)
        raised = raises_only(self, error, lambda: shown(Plan(PAIR), store, name, row, at))
        self.assertEqual(getattr(raised, "name", None), text)
        self.assertEqual(rows_of(store), before)

    def test_the_order_of_the_errors(self):
        for base in BASES:
            store, row = by_hand(base), (("ann",), base + 1, base + 5)
            for bad_at in (base, base + 1, base + 5, base + 6):
                self.check(store, "duty", row, bad_at, BadPlace)
                self.check(store, "duty", (("bob",), base + 1, base + 5), bad_at, NoRow)
                self.check(store, "room", row, bad_at, NoRow)
                self.check(store, "attic", row, bad_at, NoTable, "attic")
                self.check({"duty": store["duty"]}, "attic", row, bad_at, NoTable, "room")
                self.check({"duty": Table(2), "room": store["room"]}, "attic", row, bad_at, WrongColumns, "duty")
                full = {**store, "room": Table(1, moved([(("a",), at, at + 4) for at in range(41)], base))}
                self.check(full, "attic", row, bad_at, TooMany)
                self.check(full, "room", row, bad_at, TooMany)

    def test_no_table_also_where_all_of_the_plan_are_there(self):
        self.check(by_hand(0), "z", (("ann",), 1, 5), 3, NoTable, "z")
        self.check({**by_hand(0), "y": Table(1)}, "z", (("ann",), 1, 5), 3, NoTable, "z")

    def test_a_table_that_is_full(self):
        for base in BASES:
            row = (("ann",), base, base + 9)
            rows = [(("b",), base + at, base + at + 2) for at in range(39)]
            store = {**by_hand(base), "duty": Table(1, [row, *rows])}
            self.check(store, "duty", row, base + 4, TooMany)
            store["duty"] = Table(1, [row, *rows[1:], (("ann",), base + 4, base + 9)])
            before = rows_of(store)
            self.assertIsNotNone(shown(Plan([("table", "duty", 1), ("when", 0, "start", "=", 0)], [base]), store,
                                       "duty", row, base + 4))
            self.assertEqual(rows_of(store), before)
            self.assertEqual(len(store["duty"]), 40)

    def test_the_table_can_be_changed_afterwards(self):
        store = by_hand(0)
        shown(Plan(PAIR), store, "duty", (("ann",), 1, 5), 3)
        store["duty"][("bob",)] = Interval(0, 2)
        self.assertEqual(list(store["duty"]), [(("ann",), 1, 5), (("bob",), 0, 2)])


def slow_timeline(rows):
    """The longest intervals with the same snapshot, one moment at a time."""
    found, start, last = [], None, []
    for moment in moments_of(rows):
        now = slow_snapshot(rows, moment)
        if now != last:
            if last:
                found.append((start, moment, last))
            start, last = moment, now
    return found


class Timeline(unittest.TestCase):
    def test_by_hand(self):
        for base in BASES:
            rows = [(("a",), 0, 4), (("b",), 2, 4), (("a",), 4, 6), (("c",), 9, 12), (("c",), 10, 11), (("d",), 12, 13)]
            store = {"duty": Table(1, moved(rows, base))}
            self.assertEqual(list(timeline(Plan([DUTY]), store)), [
                (base, base + 2, [("a",)]), (base + 2, base + 4, [("a",), ("b",)]), (base + 4, base + 6, [("a",)]),
                (base + 9, base + 12, [("c",)]), (base + 12, base + 13, [("d",)]),
            ])

    def test_the_same_data_from_several_rows_is_one_interval(self):
        store = {"duty": Table(1, [(("a",), at, at + 2) for at in range(30)]), "x9": Table(1, [(("a",), 31, 40)])}
        plan = Plan([DUTY, ("table", "x9", 1), ("union", 0, 1)])
        self.assertEqual(list(timeline(plan, store)), [(0, 40, [("a",)])])

    def test_nothing(self):
        self.assertEqual(list(timeline(Plan([DUTY]), {"duty": Table(1)})), [])

    def test_random_plans(self):
        for plan, store in plans_and_stores(120):
            before = rows_of(store)
            rows = slow_answer(plan.steps, plan.marks, store)
            expected = slow_timeline(rows)
            found = list(timeline(plan, store))
            self.assertEqual(found, expected, plan.text)
            self.assertTrue(is_plain(found) and all(type(part) is tuple for part in found))
            self.assertTrue(all(type(snapshot) is list and snapshot for _, _, snapshot in found))
            self.assertEqual(rows_of(store), before)

    def test_changing_what_came(self):
        for plan, store in plans_and_stores(20):
            expected = slow_timeline(slow_answer(plan.steps, plan.marks, store))
            kept = []
            for start, stop, snapshot in timeline(plan, store):
                kept.append((start, stop, list(snapshot)))
                snapshot.append(("more",))
                snapshot.reverse()
            self.assertEqual(kept, expected)
            self.assertEqual(list(timeline(plan, store)), expected)

    def test_full_tables(self):
        pick = random.Random(SEED)
        steps = [("table", name, SIZES[name]) for name in sorted(SIZES)]
        plan = Plan([*steps, ("pair", 0, 1, "hull", ()), ("pair", 3, 2, "meet", ())])
        store = {}
        for name, columns in SIZES.items():
            store[name] = Table(columns, [((f"{at}",) * columns, at, at + pick.randrange(1, 9)) for at in range(40)])
        found = list(timeline(plan, store))
        self.assertTrue(all(start < stop and snapshot for start, stop, snapshot in found))
        for (_, stop, snapshot), (start, _, following) in zip(found, found[1:]):
            self.assertTrue(stop < start or (stop == start and snapshot != following))


class AnswerAt(unittest.TestCase):
    def test_random_plans(self):
        for plan, store in plans_and_stores(60):
            rows = slow_answer(plan.steps, plan.marks, store)
            for moment in [*moments_of(rows), -(10**29), 10**29]:
                snapshot = answer_at(plan, store, moment)
                self.assertEqual(snapshot, slow_snapshot(rows, moment))
                self.assertTrue(type(snapshot) is list and is_plain(snapshot))
                snapshot.append(("more",))
                self.assertEqual(answer_at(plan, store, moment), slow_snapshot(rows, moment))

    def test_it_agrees_with_the_timeline(self):
        for plan, store in plans_and_stores(30):
            for start, stop, snapshot in timeline(plan, store):
                for moment in (start, stop - 1):
                    self.assertEqual(answer_at(plan, store, moment), snapshot)


class ErrorsOfAnswers(unittest.TestCase):
    def test_what_the_plan_raises(self):
        full = Table(1, [(("a",), at, at + 1) for at in range(41)])
        for store, error, name in (
            ({}, NoTable, "duty"), ({"duty": Table(1)}, NoTable, "room"), ({"room": Table(2)}, NoTable, "duty"),
            ({"duty": Table(2), "room": Table(2)}, WrongColumns, "duty"), ({"duty": full, "room": Table(2)}, TooMany, None),
        ):
            plan = Plan([DUTY, ROOM])
            begun = timeline(plan, store)
            for call in (lambda: next(begun), lambda: list(timeline(plan, store)), lambda: answer_at(plan, store, 3)):
                self.assertEqual(getattr(raises_only(self, error, call), "name", None), name)


class ChangedMarks(unittest.TestCase):
    def test_everything_uses_the_new_marks(self):
        for base in BASES:
            plan = Plan([DUTY, ("clip", 0, 0, 1), ("when", 1, "start", "=", 0)], (base, base + 4))
            store = {"duty": Table(1, moved([(("a",), -9, 9), (("b",), 3, 6)], base))}
            first = list(timeline(plan, store))
            self.assertEqual(first, [(base, base + 4, [("a",)])])
            early = united(plan, plan)
            passed = [base + 3, base + 9]
            self.assertIsNone(plan.change_marks(passed))
            passed[0] = base
            late = united(plan, plan)
            self.assertEqual((early.marks, late.marks), ((base, base + 4), (base + 3, base + 9)))
            self.assertEqual(list(timeline(early, store)), first)
            self.assertEqual(late(store), plan(store))
            self.assertEqual(list(timeline(plan, store)), [
                (base + 3, base + 6, [("a",), ("b",)]), (base + 6, base + 9, [("a",)]),
            ])
            self.assertEqual(answer_at(plan, store, base + 2), [])
            self.assertEqual(answer_at(plan, store, base + 5), [("a",), ("b",)])
            self.assertEqual(shown(plan, store, "duty", (("b",), base + 3, base + 6), base + 4), (base + 4, ("b",), True))
            plan.marks = (base, base + 4)
            self.assertEqual(list(timeline(plan, store)), first)
            self.assertEqual(answer_at(plan, store, base + 5), [])


if __name__ == "__main__":
    unittest.main()
