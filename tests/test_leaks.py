"""Leaks: stores on which a cut shows, and plans for which there is none."""

import time
import unittest

from cutproof.errors import NoTable
from cutproof.intervals import Interval
from cutproof.judge import Finding, Leak, leak
from cutproof.plans import Plan
from cutproof.tables import Table
from cutproof.work import shown
from judge_samples import (
    DUTY, LEAKY, ROOM, X9, all_at, chosen_plans, count_rows, cuts_of, moments_for, pair_of, random_plans, recut,
    some_names, stores_with, with_merged, words_for,
)
from plan_samples import SIZES, plans_and_stores, random_store, rows_of
from samples import BASES, is_plain, raises_only, slow_change, slow_merged


def fields(found):
    """What a Leak tells, to compare it."""
    return found and {**vars(found), "store": rows_of(found.store)}


def check_leak(case, plan, found, merged=()):
    """Check that a Leak is one, and return how many rows it has."""
    case.assertIs(type(found), Leak)
    case.assertEqual(set(vars(found)), {"store", "moment", "data", "name", "row", "at", "lost"})
    case.assertIs(type(found.store), dict)
    case.assertEqual(sorted(found.store), list(plan.names))
    for name, table in found.store.items():
        case.assertIs(type(table), Table)
        case.assertEqual(table.columns, [step[2] for step in plan.steps if step[:2] == ("table", name)][0])
        case.assertEqual(list(Table(table.columns, list(table))), list(table))
        case.assertTrue(name not in merged or table.is_merged)
    case.assertIn(found.name, set(plan.names) - set(merged))
    case.assertIn(found.row, found.store[found.name])
    case.assertTrue(found.row[1] < found.at < found.row[2])
    case.assertTrue(is_plain([found.name, found.row, found.at, found.moment, found.data, found.lost]))
    cut = {**found.store, found.name: found.store[found.name].after_cut(found.row, found.at)}
    change = slow_change(plan(found.store), plan(cut))
    case.assertEqual((found.moment, found.data, found.lost), change)
    case.assertIs(type(found.lost), bool)
    case.assertEqual(shown(plan, found.store, found.name, found.row, found.at), change)
    case.assertTrue(1 <= count_rows(found.store) <= plan.width)
    return count_rows(found.store)


def check_no_cut_shows(case, plan, stores, merged=()):
    """Check that on none of the stores, with some tables merged, a cut of a row of another table shows."""
    others = [name for name in plan.names if name not in merged]
    for store in stores:
        if all(store[name].is_merged for name in merged):
            answer = slow_merged(plan(store)) if any(len(store[name]) for name in others) else []
            for name, row, at in cuts_of(store, others):
                cut = {**store, name: store[name].after_cut(row, at)}
                case.assertEqual(slow_merged(plan(cut)), answer, (plan.text, plan.marks, merged, rows_of(store)))


class Leaks(unittest.TestCase):
    def test_the_example_of_the_document(self):
        pair = [("table", "duty", 1), ("table", "room", 1), ("pair", 0, 1, "left", (("start", "<", "start"),))]
        self.assertEqual(check_leak(self, Plan(pair), leak(Plan(pair))), 2)
        kept = Plan([*pair, ("keep", 2, (1,))])
        self.assertEqual(check_leak(self, kept, leak(kept)), 2)

    def test_chosen_plans(self):
        for base in BASES:
            for plan, rows in chosen_plans(base):
                found = leak(plan)
                if rows is None:
                    self.assertIsNone(found, plan.text)
                else:
                    self.assertEqual(check_leak(self, plan, found), rows, plan.text)

    def test_the_plans_of_the_issue(self):
        for steps in (
            pair_of("left", ("start", "<", "start")), pair_of("right", ("start", "<=", "start")), pair_of("gap"),
        ):
            self.assertEqual(check_leak(self, Plan(steps), leak(Plan(steps))), 2)

    def test_words_of_the_plan_also_one_that_stood_in_a_leak(self):
        for size, name in ((1, "duty"), (2, "room")):
            for base in BASES:
                word, seen = "a", []
                for _ in range(4):
                    table = ("table", name, size)
                    steps = [table, ("when", 0, "start", ">=", 0), ("is", 0, 0, word), ("union", 1, 2)]
                    found = leak(Plan(steps, [base]))
                    self.assertEqual(check_leak(self, Plan(steps, [base]), found), 1)
                    self.assertNotEqual(found.row[0][0], word)
                    seen.append(word)
                    word = found.row[0][0]
                self.assertEqual(len(seen), 4)

    def test_many_words_of_the_plan(self):
        words = [f"w{number}" for number in range(1, 9)]
        steps = [DUTY, X9, ("pair", 0, 1, "gap", ()), *[("is", 2, 0, word) for word in words], ("keep", 2, (0, 1))]
        self.assertEqual(check_leak(self, Plan(steps), leak(Plan(steps))), 2)
        steps = [DUTY, ("is", 0, 0, "w1"), ("is", 1, 0, "w2"), ("when", 2, "start", "=", 0)]
        self.assertIsNone(leak(Plan(steps, [4])))
        steps = [DUTY, ("is", 0, 0, "w1"), ("is", 1, 0, "w1"), ("when", 2, "start", "=", 0)]
        self.assertEqual(check_leak(self, Plan(steps, [4]), leak(Plan(steps, [4]))), 1)
        steps = [ROOM, ("is", 0, 0, "a"), ("same", 1, 0, 1), ("when", 2, "start", "=", 0)]
        found = leak(Plan(steps, [4]))
        self.assertEqual((check_leak(self, Plan(steps, [4]), found), found.row[0]), (1, ("a", "a")))
        self.assertIsNone(leak(Plan([*steps, ("is", 3, 1, "b")], [4])))

    def test_words_that_must_be_equal(self):
        steps = [DUTY, X9, ("pair", 0, 1, "left", (("start", "<", "start"),)), ("same", 2, 0, 1)]
        found = leak(Plan(steps))
        self.assertEqual(check_leak(self, Plan(steps), found), 2)
        self.assertEqual(len({row[0] for table in found.store.values() for row in table}), 1)
        # The pairs with equal words all are there anyway.
        steps += [("pair", 0, 1, "left", ()), ("same", 4, 0, 1), ("union", 3, 5)]
        self.assertIsNone(leak(Plan(steps)))

    def test_two_rows_of_a_merged_table(self):
        overlap, touch = (("start", "<", "start"), ("stop", ">", "start")), (("stop", "=", "start"),)
        for tests, same, expected, otherwise in (
            (overlap, True, None, 3), (overlap, False, 3, 3), (touch, True, None, 2), (touch, False, 3, 2),
            ((("stop", "<", "start"),), True, 3, 3), ((("start", ">", "stop"),), True, 3, 3),
            ((("start", "=", "stop"),), True, None, 2), ((("start", "<", "start"),), True, 3, 2),
        ):
            # Whether rows with equal data can be there depends on whether their table is merged.
            equal = ("same", 2, 0, 1) if same else ("keep", 2, (0, 1))
            later = ("pair", 0, 3, "left", (("start", "<", "start"),))
            plan = Plan([DUTY, X9, ("pair", 1, 1, "hull", tests), equal, later])
            for names, rows in ((["x9"], expected), (["duty"], otherwise)):
                found = leak(plan, merged=names)
                self.assertEqual(found and check_leak(self, plan, found, names), rows, (plan.text, names))

    def test_two_rows_with_equal_data(self):
        for tests in ((("stop", "=", "stop"), ("start", ">", "start")), (("start", "=", "start"), ("stop", "<", "stop"))):
            for span in ("left", "right", "hull", "meet"):
                plan = Plan([DUTY, ("pair", 0, 0, span, tests), ("same", 1, 0, 1)])
                self.assertEqual(check_leak(self, plan, leak(plan)), 2)
                self.assertIsNone(leak(plan, merged=["duty"]))

    def test_random_plans(self):
        found_rows = []
        for plan, pick, _ in random_plans(80):
            merged = some_names(pick, plan)
            found = leak(plan, merged=merged)
            if found is not None:
                found_rows.append(check_leak(self, plan, found, merged))
                for again in (list(merged), [*merged, *merged[::-1]], merged[::-1]):
                    self.assertIsNotNone(leak(plan, merged=again))
            elif plan.width == 1 and not any(step[0] == "when" for step in plan.steps):
                self.assertIsNone(leak(plan))
        self.assertEqual(set(found_rows), {1, 2, 3})

    def test_one_place_without_when(self):
        tried = 0
        for plan, pick, _ in random_plans(150):
            if plan.width == 1 and not any(step[0] == "when" for step in plan.steps):
                tried += 1
                self.assertIsNone(leak(plan))
                self.assertIsNone(leak(plan, merged=some_names(pick, plan)))
        self.assertGreater(tried, 100)

    def test_it_is_a_finding(self):
        self.assertTrue(issubclass(Leak, Finding))
        self.assertIsInstance(leak(Plan(pair_of("gap"))), Finding)


class AskedAgain(unittest.TestCase):
    def test_after_the_store_of_the_first_leak_was_changed(self):
        for plan, rows in chosen_plans():
            if rows is not None:
                first = leak(plan)
                kept = fields(first)
                for name in plan.names:
                    first.store[name][("zz",) * SIZES[name]] = Interval(0, 9)
                del first.store[plan.names[0]]
                second = leak(plan)
                self.assertEqual(check_leak(self, plan, second), rows)
                self.assertEqual(count_rows(second.store), sum(len(table) for _, table in kept["store"].values()))

    def test_the_tables_are_different_ones(self):
        for plan, rows in chosen_plans():
            if rows is not None:
                tables = [table for _ in range(2) for table in leak(plan).store.values()]
                self.assertEqual(len({id(table) for table in tables}), len(tables))

    def test_the_plan_and_the_merge_set_stay(self):
        for plan, pick, _ in random_plans(15):
            before = (plan.steps, plan.marks, plan.columns, plan.names, plan.width, plan.text)
            merged = list(some_names(pick, plan))
            kept = list(merged)
            leak(plan, merged=merged)
            self.assertEqual((plan.steps, plan.marks, plan.columns, plan.names, plan.width, plan.text), before)
            self.assertEqual(merged, kept)

    def test_marks_that_were_changed(self):
        plan = Plan([DUTY, ("when", 0, "start", ">", 0), ("clip", 0, 0, 1), ("union", 1, 2)], [0, 9])
        self.assertEqual(check_leak(self, plan, leak(plan)), 1)
        plan.marks = [10**20, 10**20 + 1]
        self.assertEqual(check_leak(self, plan, leak(plan)), 1)

    def test_marks_that_leave_no_room(self):
        within = [DUTY, ("when", 0, "start", ">", 0), ("when", 1, "stop", "<", 1)]
        touching = [DUTY, ("when", 0, "start", ">=", 0), ("when", 1, "stop", "<=", 1)]
        for base in BASES:
            for steps, gap, expected in (
                (within, 1, None), (within, 2, None), (within, 3, 1), (within, 40, 1), (touching, 1, 1), (touching, 9, 1),
            ):
                plan = Plan(steps, (base, base + gap))
                found = leak(plan)
                self.assertEqual(found and check_leak(self, plan, found), expected)


class NoStoreShowsMore(unittest.TestCase):
    """No store with fewer rows shows a cut, and none at all where leak returns None."""

    def check(self, plan, pick, base, merged, most):
        found = leak(plan, merged=merged)
        rows = plan.width + 2 if found is None else check_leak(self, plan, found, merged)
        words, moments = words_for(plan), moments_for(base, plan.marks, plan.width)
        for many in range(1, rows):
            stores = stores_with(pick, plan.names, many, words, moments, most)
            check_no_cut_shows(self, plan, stores, merged)

    def test_chosen_plans(self):
        for base in (0, -50):
            for plan, pick in zip([plan for plan, _ in chosen_plans(base)], [pick for _, pick, _ in random_plans(9)]):
                for merged in ((), plan.names[:1], plan.names[1:]):
                    self.check(plan, pick, base, merged, 120)

    def test_random_plans(self):
        for plan, pick, base in random_plans(35):
            self.check(plan, pick, base, some_names(pick, plan) if pick.randrange(2) else (), 60)

    def test_all_stores_with_one_row(self):
        for plan, pick, base in random_plans(25, 7):
            found = leak(plan)
            if found is None or count_rows(found.store) > 1:
                stores = stores_with(pick, plan.names, 1, words_for(plan), moments_for(base, plan.marks, plan.width), 10**9)
                check_no_cut_shows(self, plan, stores)

    def test_larger_stores(self):
        stable = 0
        for plan, store in plans_and_stores(60, 3):
            if leak(plan) is None:
                stable += 1
                check_no_cut_shows(self, plan, [store])
        self.assertGreater(stable, 100)


class StoresThatSayTheSame(unittest.TestCase):
    def check(self, plan, store, other, merged):
        answers = [slow_merged(plan(with_merged(some, merged))) for some in (store, other)]
        self.assertEqual(*answers, (plan.text, plan.marks, merged, rows_of(store), rows_of(other)))

    def test_random_plans(self):
        stable = 0
        for plan, pick, base in random_plans(60):
            merged = some_names(pick, plan) if pick.randrange(2) else ()
            if leak(plan, merged=merged) is None:
                stable += 1
                for _ in range(4):
                    store = random_store(pick, base, 3)
                    other = recut(pick, store)
                    self.assertTrue(all(store[name].says_same(other[name]) for name in store))
                    self.check(plan, store, other, merged)
        self.assertGreater(stable, 100)

    def test_chosen_plans(self):
        for base in BASES:
            for (plan, _), (_, pick, _) in zip(chosen_plans(base), random_plans(9)):
                for merged in ((), plan.names, plan.names[:1], plan.names[1:]):
                    if leak(plan, merged=merged) is None:
                        for _ in range(4):
                            store = random_store(pick, base, 3)
                            self.check(plan, store, recut(pick, store), merged)


class NamesThatNoTableHas(unittest.TestCase):
    def test_the_first_one(self):
        for steps, marks, _ in LEAKY:
            plan = Plan(steps, all_at(0, marks))
            for names, name in (
                (["z"], "z"), (["b", "a"], "b"), (["a", "b"], "a"), ([plan.names[0], "z", "a"], "z"),
                (["z", *plan.names], "z"), ([*plan.names, *plan.names, "dut"], "dut"), (["dutyy", "dutyy"], "dutyy"),
            ):
                for kind in (list, tuple):
                    error = raises_only(self, NoTable, lambda: leak(plan, merged=kind(names)))
                    self.assertEqual(error.name, name)
                    self.assertIs(type(error.name), str)

    def test_all_names_of_the_plan_are_good(self):
        for plan, _ in chosen_plans():
            self.assertIsNone(leak(plan, merged=plan.names))
            self.assertIsNone(leak(plan, merged=[*plan.names, *plan.names]))


class HowLong(unittest.TestCase):
    def test_the_largest_plans(self):
        # Each of these takes the search through all that there is to try.
        both = (("start", "<=", "stop"), ("stop", ">=", "start"))
        largest = (
            Plan([ROOM, ("pair", 0, 0, "hull", ()), ("pair", 1, 0, "hull", both), ("pair", 1, 0, "hull", ()),
                  ("union", 2, 3), ("keep", 4, (0,))]),
            Plan([DUTY, X9, ROOM, ("pair", 0, 1, "meet", both), ("pair", 3, 2, "meet", both),
                  ("pair", 3, 2, "meet", ()), ("union", 4, 5)]),
            Plan([ROOM, ("pair", 0, 0, "hull", ()), ("pair", 0, 0, "meet", both), ("pair", 0, 0, "left", ()),
                  ("union", 1, 2), ("union", 4, 3), ("keep", 5, (0, 2))], (0, 40)),
            Plan([DUTY, ("clip", 0, 0, 3), ("clip", 0, 1, 2), ("union", 1, 2)], (0, 9, 20, 40)),
        )
        for plan in largest:
            begun = time.perf_counter()
            self.assertIsNone(leak(plan))
            self.assertLess(time.perf_counter() - begun, 2)


if __name__ == "__main__":
    unittest.main()
