"""The answers of plans, and marks that change."""

import random
import unittest

from cutproof.errors import BadMarks, NoTable, TooMany, WrongColumns
from cutproof.intervals import Interval
from cutproof.plans import Plan, paired, united
from cutproof.tables import Table
from samples import BAD_MARKS, BASES, SEED, is_plain, moved, raises_only
from plan_samples import (
    COMPARE, ENDS, SIZES, SPANS, part, plans_and_stores, random_plan, random_store, rows_of, slow_answer, slow_span,
)

DUTY, ROOM = ("table", "duty", 1), ("table", "room", 2)


def store_at(base, **tables):
    """A store of the rows, moved."""
    return {name: Table(len(rows[0][0]), moved(rows, base)) for name, rows in tables.items()}


class EachKind(unittest.TestCase):
    def check(self, steps, marks, store, expected):
        """Compare the answer with the rows expected, near 0 and elsewhere."""
        for base in BASES:
            plan = Plan(steps, [base + mark for mark in marks])
            self.assertEqual(plan(store_at(base, **store)), moved(sorted(expected), base))

    def test_the_example_of_the_document(self):
        steps = [("table", "duty", 1), ("table", "room", 1), ("pair", 0, 1, "left", (("start", "<", "start"),))]
        store = {"duty": [(("ann",), 1, 5)], "room": [(("hall",), 3, 6)]}
        self.check(steps, (), store, [(("ann", "hall"), 1, 5)])
        self.check([*steps, ("keep", 2, (1,))], (), store, [(("hall",), 1, 5)])
        store["duty"] = [(("ann",), 1, 3), (("ann",), 3, 5)]
        self.check(steps, (), store, [(("ann", "hall"), 1, 3)])

    def test_table(self):
        rows = [(("b",), 0, 4), (("a",), 2, 3), (("a",), 0, 9), (("b",), 4, 6)]
        self.check([DUTY], (), {"duty": rows, "room": [(("a", "b"), 1, 2)]}, rows)

    def test_same(self):
        rows = [(("a", "a"), 0, 4), (("a", "b"), 0, 4), (("b", "b"), 3, 5), (("b", "a"), 3, 5)]
        for i, j in ((0, 1), (1, 0)):
            self.check([ROOM, ("same", 0, i, j)], (), {"room": rows}, [rows[0], rows[2]])
        self.check([ROOM, ("same", 0, 1, 1)], (), {"room": rows}, rows)

    def test_is(self):
        rows = [(("a", "a"), 0, 4), (("a", "b"), 0, 4), (("b", "b"), 3, 5), (("b", "a"), 3, 5)]
        self.check([ROOM, ("is", 0, 0, "a")], (), {"room": rows}, rows[:2])
        self.check([ROOM, ("is", 0, 1, "b")], (), {"room": rows}, rows[1:3])
        self.check([ROOM, ("is", 0, 1, "c")], (), {"room": rows}, [])

    def test_when(self):
        rows = [(("a",), start, stop) for start in range(5) for stop in range(start + 1, 6)]
        for end in ENDS:
            for operator in COMPARE:
                for k, mark in enumerate((1, 3)):
                    held = [row for row in rows if COMPARE[operator](part(row, end), mark)]
                    self.check([DUTY, ("when", 0, end, operator, k)], (1, 3), {"duty": rows}, held)
        self.check([DUTY, ("when", 0, "start", "<", 0)], (1,), {"duty": rows}, rows[:5])

    def test_clip(self):
        rows = [(("a",), 0, 9), (("b",), 0, 2), (("c",), 7, 9), (("d",), 3, 4), (("e",), 0, 3), (("f",), 6, 8)]
        expected = [(("a",), 2, 7), (("d",), 3, 4), (("e",), 2, 3), (("f",), 6, 7)]
        self.check([DUTY, ("clip", 0, 0, 1)], (2, 7), {"duty": rows}, expected)
        self.check([DUTY, ("clip", 0, 0, 2)], (2, 3, 7), {"duty": rows}, expected)
        self.check([DUTY, ("clip", 0, 1, 2)], (0, 2, 7), {"duty": rows}, expected)
        twice = [(("a",), 0, 9), (("a",), 1, 8)]
        self.check([DUTY, ("clip", 0, 0, 1)], (2, 7), {"duty": twice}, [(("a",), 2, 7)])

    def test_pair_with_each_span(self):
        for start in range(-4, 5):
            for stop in range(start + 1, 6):
                left, right = (("a",), 0, 2), (("b", "c"), start, stop)
                for span in SPANS:
                    low, high = slow_span(left, right, span)
                    expected = [(("a", "b", "c"), low, high)] if low < high else []
                    self.check([DUTY, ROOM, ("pair", 0, 1, span, ())], (), {"duty": [left], "room": [right]}, expected)

    def test_spans_by_hand(self):
        early, late = (("a",), 0, 4), (("b", "b"), 2, 7)
        apart = (("c", "c"), 6, 9)
        for span, expected in (
            ("meet", [(("a", "b", "b"), 2, 4)]),
            ("hull", [(("a", "b", "b"), 0, 7), (("a", "c", "c"), 0, 9)]),
            ("left", [(("a", "b", "b"), 0, 4), (("a", "c", "c"), 0, 4)]),
            ("right", [(("a", "b", "b"), 2, 7), (("a", "c", "c"), 6, 9)]),
            ("gap", [(("a", "c", "c"), 4, 6)]),
        ):
            self.check([DUTY, ROOM, ("pair", 0, 1, span, ())], (), {"duty": [early], "room": [late, apart]}, expected)
            swapped = [(data[1:] + data[:1], *ends) for data, *ends in expected]
            swapped = {"left": [(("b", "b", "a"), 2, 7), (("c", "c", "a"), 6, 9)],
                       "right": [(("b", "b", "a"), 0, 4), (("c", "c", "a"), 0, 4)], "gap": []}.get(span, swapped)
            steps = [ROOM, DUTY, ("pair", 0, 1, span, ())]
            self.check(steps, (), {"duty": [early], "room": [late, apart]}, swapped)

    def test_tests_of_a_pair(self):
        rows = [(("a",), start, stop) for start in range(3) for stop in range(start + 1, 4)]
        others = [((f"{start}", f"{stop}"), start, stop) for start in range(3) for stop in range(start + 1, 4)]
        for one in ENDS:
            for operator in COMPARE:
                for other in ENDS:
                    test = (one, operator, other)
                    pairs = [
                        (row[0] + right[0], *row[1:]) for row in rows for right in others
                        if COMPARE[operator](part(row, one), part(right, other))
                    ]
                    steps = [DUTY, ROOM, ("pair", 0, 1, "left", (test,))]
                    self.check(steps, (), {"duty": rows, "room": others}, pairs)
                    both = [("stop", "<=", "stop"), test]
                    pairs = [row for row in pairs if row[2] <= int(row[0][2])]
                    for tests in (tuple(both), tuple(both[::-1]), (*both, *both)):
                        steps = [DUTY, ROOM, ("pair", 0, 1, "left", tests)]
                        self.check(steps, (), {"duty": rows, "room": others}, pairs)

    def test_one_table_for_both_sides(self):
        rows = [(("a",), 0, 4), (("b",), 2, 6)]
        self.check([DUTY, ("pair", 0, 0, "meet", ())], (), {"duty": rows}, [
            (("a", "a"), 0, 4), (("a", "b"), 2, 4), (("b", "a"), 2, 4), (("b", "b"), 2, 6),
        ])
        self.check([DUTY, ("pair", 0, 0, "gap", ())], (), {"duty": rows}, [])

    def test_union(self):
        rows = [(("a", "b"), 0, 4), (("b", "b"), 1, 2)]
        steps = [DUTY, ROOM, ("keep", 1, (0,)), ("union", 0, 2)]
        self.check(steps, (), {"duty": [(("b",), 1, 2), (("c",), 0, 1)], "room": rows}, [
            (("a",), 0, 4), (("b",), 1, 2), (("c",), 0, 1),
        ])

    def test_keep(self):
        rows = [(("a", "b"), 0, 4), (("b", "c"), 0, 4), (("a", "c"), 0, 4), (("a", "c"), 0, 5)]
        self.check([ROOM, ("keep", 0, (0,))], (), {"room": rows}, [(("a",), 0, 4), (("a",), 0, 5), (("b",), 0, 4)])
        self.check([ROOM, ("keep", 0, (1, 0, 1))], (), {"room": rows[:2]}, [
            (("b", "a", "b"), 0, 4), (("c", "b", "c"), 0, 4),
        ])

    def test_steps_that_the_last_one_does_not_use(self):
        rows = [(("a", "a"), 0, 4)]
        steps = [ROOM, DUTY, ("is", 0, 0, "z"), ("pair", 2, 1, "meet", ()), ("keep", 0, (1,))]
        self.check(steps, (), {"room": rows, "duty": [(("b",), 0, 1)]}, [(("a",), 0, 4)])


class Answers(unittest.TestCase):
    def test_random_plans(self):
        for plan, store in plans_and_stores(150):
            before = rows_of(store)
            answer = plan(store)
            self.assertEqual(answer, slow_answer(plan.steps, plan.marks, store), plan.text)
            self.assertTrue(type(answer) is list and is_plain(answer))
            self.assertEqual(answer, sorted(set(answer)))
            self.assertEqual(rows_of(store), before)

    def test_asked_twice(self):
        for plan, store in plans_and_stores(30):
            answer = plan(store)
            kept = list(answer)
            answer.append("more")
            answer.reverse()
            self.assertEqual(plan(store), kept)
            plan(store).clear()
            self.assertEqual(plan(store), kept)

    def test_after_a_row_was_added(self):
        for plan, store in plans_and_stores(30):
            plan(store)
            for name in plan.names:
                rows = list(store[name])
                store[name][("a",) * SIZES[name]] = Interval(rows[0][1] - 1, rows[0][2] + 4) if rows else Interval(0, 9)
                self.assertEqual(plan(store), slow_answer(plan.steps, plan.marks, store))

    def test_a_store_without_rows_and_a_plan_in_a_cut(self):
        plan = Plan([DUTY, ROOM, ("pair", 0, 1, "hull", ())])
        store = {"duty": Table(1), "room": Table(2)}
        self.assertEqual(plan(store), [])
        store = {"duty": Table(1, [(("a",), 0, 4)]), "room": Table(2)}
        plan = Plan([DUTY])
        with store["duty"].cut((("a",), 0, 4), 3):
            self.assertEqual(plan(store), [(("a",), 0, 3), (("a",), 3, 4)])
        self.assertEqual(plan(store), [(("a",), 0, 4)])

    def test_tables_that_the_plan_does_not_name(self):
        for plan, store in plans_and_stores(20):
            answer = plan(store)
            others = {name: store[name] for name in plan.names}
            self.assertEqual(plan(others), answer)
            others["zz"] = Table(2, [(("a", "b"), row, row + 1) for row in range(60)])
            others.update({name: Table(3 - SIZES[name]) for name in SIZES if name not in plan.names})
            self.assertEqual(plan(others), answer)


def many_rows(columns, many):
    return Table(columns, [(("a",) * columns, at, at + 1) for at in range(many)])


class WrongStores(unittest.TestCase):
    steps = (("table", "b", 1), ("table", "c", 2), ("table", "a", 2), ("is", 0, 0, "x"))

    def check(self, store, error, name=None):
        before = rows_of(store)
        raised = raises_only(self, error, lambda: Plan(self.steps)(store))
        self.assertEqual(getattr(raised, "name", None), name)
        self.assertEqual(rows_of(store), before)

    def test_the_first_name_with_a_fault(self):
        good = {"a": many_rows(2, 40), "b": many_rows(1, 40), "c": many_rows(2, 40)}
        self.assertEqual(Plan(self.steps)(good), [])
        faults = {
            "missing": lambda name: (NoTable, name, None),
            "columns": lambda name: (WrongColumns, name, many_rows(3 - good[name].columns, 3)),
            "many": lambda name: (TooMany, None, many_rows(good[name].columns, 41)),
            "both": lambda name: (WrongColumns, name, many_rows(3 - good[name].columns, 41)),
        }
        for first in good:
            for fault in faults.values():
                error, name, table = fault(first)
                store = {**good, first: table}
                store = {key: store[key] for key in sorted(store, reverse=True) if store[key] is not None}
                self.check(store, error, name)
                for second in [other for other in good if other > first]:
                    for other_fault in faults.values():
                        _, _, table = other_fault(second)
                        worse = {**store, second: table}
                        self.check({key: worse[key] for key in worse if worse[key] is not None}, error, name)

    def test_nothing_at_all(self):
        self.check({}, NoTable, "a")
        self.check({"aa": many_rows(2, 1), "b": many_rows(1, 1)}, NoTable, "a")

    def test_a_table_of_a_step_that_is_not_used(self):
        self.check({"a": many_rows(2, 1), "b": many_rows(1, 1)}, NoTable, "c")

    def test_forty_rows(self):
        plan = Plan([DUTY, ("pair", 0, 0, "meet", (("start", "=", "start"),)), ("keep", 1, (0,))])
        for base in BASES:
            table = Table(1, moved(list(many_rows(1, 40)), base))
            self.assertEqual(plan({"duty": table}), list(table))
            table[("b",)] = Interval(base, base + 1)
            raises_only(self, TooMany, lambda: plan({"duty": table}))

    def test_forty_rows_and_a_cut(self):
        table = many_rows(1, 39)
        table[("z",)] = Interval(0, 9)
        plan = Plan([DUTY])
        with table.cut((("z",), 0, 9), 4):
            raises_only(self, TooMany, lambda: plan({"duty": table}))
        self.assertEqual(len(plan({"duty": table})), 40)

    def test_three_tables_of_forty_rows(self):
        store = {name: many_rows(SIZES[name], 40) for name in SIZES}
        steps = [("table", name, SIZES[name]) for name in sorted(SIZES)]
        steps += [("pair", 0, 1, "hull", ()), ("pair", 3, 2, "hull", ())]
        answer = Plan(steps)(store)
        self.assertEqual(answer, [(("a",) * 4, low, high) for low in range(40) for high in range(low + 1, 41)])


class ChangingMarks(unittest.TestCase):
    def test_new_marks(self):
        pick = random.Random(SEED)
        for plan, store in plans_and_stores(60):
            marks = sorted(mark + at for mark, at in zip(plan.marks, pick.sample(range(-99, 99), len(plan.marks))))
            if len(set(marks)) == len(marks):
                old = plan.marks
                passed = list(marks)
                for change in (plan.change_marks, lambda value: setattr(plan, "marks", value)):
                    self.assertIsNone(change(passed))
                    if passed:
                        passed[0] += 1
                    self.assertEqual(plan.marks, tuple(marks))
                    self.assertTrue(type(plan.marks) is tuple and is_plain(plan.marks))
                    self.assertEqual(plan(store), slow_answer(plan.steps, tuple(marks), store))
                    passed = list(marks)
                    plan.marks = old
                    self.assertEqual(plan(store), slow_answer(plan.steps, old, store))

    def test_by_hand(self):
        for base in BASES:
            plan = Plan([DUTY, ("clip", 0, 0, 1)], (base, base + 4))
            store = store_at(base, duty=[(("a",), -9, 9)])
            self.assertEqual(plan(store), [(("a",), base, base + 4)])
            plan.change_marks([base + 1, base + 2])
            self.assertEqual((plan.marks, plan(store)), ((base + 1, base + 2), [(("a",), base + 1, base + 2)]))
            plan.marks = (base - 5, base)
            self.assertEqual((plan.marks, plan(store)), ((base - 5, base), [(("a",), base - 5, base)]))

    def test_bad_marks(self):
        for base in BASES:
            for many in range(5):
                marks = tuple(base + 3 * place for place in range(many))
                steps = [DUTY] if many < 2 else [DUTY, ("clip", 0, 0, many - 1)]
                plan, store = Plan(steps, marks), store_at(base, duty=[(("a",), -9, 19)])
                answer = plan(store)
                wrong = [marks[:-1]] if marks else []
                wrong += [(*marks, base + 99), (base - 9, *marks, base + 99)]
                wrong += [tuple(base + mark for mark in bad) for bad in BAD_MARKS if abs(len(bad) - many) <= 1]
                for value in wrong:
                    for kind in (list, tuple):
                        raises_only(self, BadMarks, lambda: plan.change_marks(kind(value)))
                        raises_only(self, BadMarks, lambda: setattr(plan, "marks", kind(value)))
                        self.assertEqual((plan.marks, plan(store)), (marks, answer))

    def test_marks_of_a_derived_class(self):
        class Moment(int):
            pass

        plan = Plan([DUTY], (Moment(3),))
        self.assertTrue(is_plain(plan.marks))
        plan.marks = [Moment(4)]
        self.assertTrue(is_plain(plan.marks))

    def test_plans_that_were_made_earlier_keep_theirs(self):
        plan = Plan([DUTY, ("when", 0, "start", "<", 0)], [3])
        store = store_at(0, duty=[(("a",), 2, 5), (("b",), 4, 5)])
        made = [united(plan), united(plan, plan), paired(plan, plan), plan.without(1, 0)]
        before = [(other.marks, other(store)) for other in made]
        plan.marks = [9]
        self.assertEqual(plan(store), [(("a",), 2, 5), (("b",), 4, 5)])
        self.assertEqual([(other.marks, other(store)) for other in made], before)
        made[0].marks = [0]
        self.assertEqual((plan.marks, made[1].marks, made[0](store)), ((9,), (3,), []))


class WhatAnswersConsistOf(unittest.TestCase):
    def test_a_store_that_lacks_some_rows(self):
        pick = random.Random(SEED)
        for plan, store in plans_and_stores(60):
            answer, before = plan(store), rows_of(store)
            less = {
                name: Table(table.columns, [row for row in table if pick.randrange(3)]) for name, table in store.items()
            }
            fewer = rows_of(less)
            self.assertLessEqual(set(plan(less)), set(answer))
            self.assertEqual((rows_of(store), rows_of(less)), (before, fewer))
            self.assertEqual(plan({name: Table(table.columns) for name, table in store.items()}), [])

    def test_words_and_ends(self):
        for plan, store in plans_and_stores(60):
            named = [row for name in plan.names for row in store[name]]
            words = {word for row in named for word in row[0]}
            ends = {end for row in named for end in row[1:]} | set(plan.marks)
            for data, start, stop in plan(store):
                self.assertLessEqual(set(data), words)
                self.assertLessEqual({start, stop}, ends)

    def test_other_moments_and_words_in_the_same_order(self):
        pick = random.Random(SEED)
        for base in BASES:
            for _ in range(40):
                marks = sorted(base + near for near in pick.sample(range(-3, 12), pick.randrange(4)))
                plan, store = random_plan(pick, tuple(marks)), random_store(pick, base)
                moments = {end for table in store.values() for row in table for end in row[1:]} | set(marks)
                others = sorted(pick.sample(range(-(10**9), 10**9), len(moments)))
                moment = dict(zip(sorted(moments), (10**20 * other for other in others)))
                word = dict(zip(("a", "b", "c1"), pick.sample(("a", "zz", "0", "abcdefghij12", "c"), 3)))
                self.check(plan, store, moment, word)

    def check(self, plan, store, moment, word):
        def changed(row):
            data, start, stop = row
            return tuple(word[old] for old in data), moment[start], moment[stop]

        steps = [(*step[:3], word[step[3]]) if step[0] == "is" else step for step in plan.steps]
        other = Plan(steps, [moment[mark] for mark in plan.marks])
        other_store = {name: Table(table.columns, [changed(row) for row in table]) for name, table in store.items()}
        self.assertEqual(other(other_store), sorted(changed(row) for row in plan(store)))


if __name__ == "__main__":
    unittest.main()
