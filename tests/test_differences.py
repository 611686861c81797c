"""Differences between plans, and tests that never matter."""

import random
import time
import unittest

from cutproof.errors import Mismatch, TooMany
from cutproof.intervals import Interval
from cutproof.judge import Difference, Finding, Leak, difference, idle_tests
from cutproof.plans import Plan
from cutproof.tables import Table
from judge_samples import (
    DUTY, ROOM, X9, chosen_plans, count_rows, moments_for, pair_of, plan_like, random_plans, split_pair, stores_with,
    words_for,
)
from plan_samples import SIZES, plans_and_stores, random_store, rows_of
from samples import BASES, SEED, is_plain, raises_only, slow_change, slow_merged

OVERLAP = (("start", "<", "stop"), ("stop", ">", "start"))
THREE = [DUTY, X9, ROOM, ("pair", 0, 1, "meet", ())]


def check_difference(case, one, two, found):
    """Check that a Difference is one, and return how many rows it has."""
    case.assertIs(type(found), Difference)
    case.assertEqual(set(vars(found)), {"store", "moment", "data", "in_first"})
    case.assertIs(type(found.store), dict)
    case.assertEqual(sorted(found.store), sorted({*one.names, *two.names}))
    sizes = {step[1]: step[2] for step in (*one.steps, *two.steps) if step[0] == "table"}
    for name, table in found.store.items():
        case.assertEqual((type(table), table.columns), (Table, sizes[name]))
        case.assertEqual(list(Table(table.columns, list(table))), list(table))
    case.assertTrue(is_plain([found.moment, found.data, found.in_first]))
    case.assertIs(type(found.in_first), bool)
    case.assertEqual((found.moment, found.data, found.in_first), slow_change(one(found.store), two(found.store)))
    case.assertTrue(1 <= count_rows(found.store) <= max(one.width, two.width))
    return count_rows(found.store)


def check_both_ways(case, one, two):
    """Compare two plans both ways, and return how many rows a Difference has, or None."""
    found, other = difference(one, two), difference(two, one)
    case.assertEqual(found is None, other is None)
    if found is None:
        return None
    rows = check_difference(case, one, two, found)
    case.assertEqual(check_difference(case, two, one, other), rows)
    return rows


def like_plans(many, seed=SEED):
    """Random plans, each with one that is a little different; all marks together are not too many."""
    for plan, pick, base in random_plans(many, seed):
        other = plan_like(pick, plan)
        if 2 * max(plan.width, other.width) + len({*plan.marks, *other.marks}) <= 6 and plan.columns == other.columns:
            yield plan, other, pick, base


class Differences(unittest.TestCase):
    def test_by_hand(self):
        for one, two, marks, rows in (
            ([DUTY], [X9], 0, 1),
            ([DUTY], [DUTY, ("union", 0, 0)], 0, None),
            ([DUTY], [DUTY, ("is", 0, 0, "a")], 0, 1),
            ([DUTY], [DUTY, ("pair", 0, 0, "left", ()), ("keep", 1, (0,))], 0, None),
            ([DUTY], [DUTY, X9, ("pair", 0, 1, "left", ()), ("keep", 2, (0,))], 0, 1),
            ([DUTY, X9, ("union", 0, 1)], [DUTY, X9, ("union", 1, 0)], 0, None),
            (pair_of("meet"), pair_of("meet", *OVERLAP), 0, None),
            (pair_of("left"), pair_of("left", *OVERLAP), 0, 2),
            (pair_of("left"), pair_of("right"), 0, 2),
            (pair_of("hull"), pair_of("meet"), 0, 2),
            (pair_of("left"), split_pair("left", ("start", "<", "stop")), 0, None),
            (split_pair("right", ("stop", "<=", "start")), split_pair("right", ("start", "<", "stop")), 0, None),
            ([ROOM], [ROOM, ("same", 0, 0, 1)], 0, 1),
            ([ROOM], [ROOM, ("keep", 0, (0, 1))], 0, None),
            ([ROOM], [ROOM, ("keep", 0, (1, 0))], 0, 1),
            ([ROOM, ("same", 0, 0, 1)], [ROOM, ("same", 0, 0, 1), ("keep", 1, (1, 1))], 0, None),
            ([DUTY, ("when", 0, "start", "<", 0)], [DUTY, ("when", 0, "start", "<=", 0)], 1, 1),
            ([DUTY, ("clip", 0, 0, 1)], [DUTY, ("clip", 0, 0, 1), ("clip", 1, 0, 1)], 2, None),
            (THREE + [("pair", 3, 2, "meet", ())], THREE + [("pair", 3, 2, "meet", (("start", "<", "start"),))], 0, 3),
        ):
            for base in BASES:
                marks_at = tuple(base + 4 * place for place in range(marks))
                self.assertEqual(check_both_ways(self, Plan(one, marks_at), Plan(two, marks_at)), rows, (one, two))

    def test_other_marks(self):
        for base in BASES:
            for one, two, rows in (
                ([base], [base], None), ([base], [base + 1], 1), ([base], [base + 40], 1), ([base], [base - 40], 1),
            ):
                plans = [Plan([DUTY, ("when", 0, "start", "<", 0)], marks) for marks in (one, two)]
                self.assertEqual(check_both_ways(self, *plans), rows)
            apart = [Plan([DUTY, ("clip", 0, 0, 1)], (at, at + 9)) for at in (base, base + 100)]
            self.assertEqual(check_both_ways(self, *apart), 1)

    def test_marks_that_do_not_matter(self):
        for base in BASES:
            self.assertIsNone(check_both_ways(self, Plan([DUTY], [base]), Plan([DUTY], [base + 5, base + 9])))
            self.assertIsNone(check_both_ways(self, Plan([DUTY], []), Plan([DUTY], [base + 5, base + 9])))

    def test_words_of_both_plans(self):
        for one, two in (("a", "b"), ("w1", "w2"), ("w2", "w1")):
            plans = [Plan([DUTY, ("is", 0, 0, word)]) for word in (one, two)]
            self.assertEqual(check_both_ways(self, *plans), 1)
            words = [Plan([ROOM, ("is", 0, 0, one), ("is", at, 1, two)]) for at in (0, 1)]
            self.assertEqual(check_both_ways(self, *words), 1)
            self.assertNotIn(difference(*words).data[0], (one, two))
        # A word that stood in a Difference before.
        found = difference(Plan([DUTY]), Plan([X9]))
        word = found.data[0]
        self.assertEqual(check_both_ways(self, Plan([DUTY, ("is", 0, 0, word)]), Plan([DUTY])), 1)

    def test_tables_of_one_plan_only(self):
        found = difference(Plan([DUTY]), Plan([X9, ROOM, ("keep", 1, (0,))]))
        self.assertEqual(sorted(found.store), ["duty", "room", "x9"])
        found = difference(Plan([DUTY]), Plan([("table", "a", 1), ("table", "b", 1), ("table", "c", 2), ("keep", 2, (0,))]))
        self.assertEqual(sorted(found.store), ["a", "b", "c", "duty"])

    def test_a_plan_and_itself(self):
        for plan, _, _ in random_plans(30):
            self.assertIsNone(difference(plan, plan))
            self.assertIsNone(difference(plan, Plan(plan.steps, plan.marks)))

    def test_random_plans(self):
        rows = [check_both_ways(self, one, two) for one, two, _, _ in like_plans(80)]
        self.assertEqual(set(rows), {None, 1, 2, 3})

    def test_asked_twice(self):
        for one, two, _, _ in like_plans(8):
            before = [(plan.steps, plan.marks, plan.names, plan.text) for plan in (one, two)]
            found = difference(one, two)
            if found is not None:
                rows = count_rows(found.store)
                for name in found.store:
                    found.store[name][("zz",) * SIZES[name]] = Interval(0, 9)
                found.store.clear()
                self.assertEqual(check_difference(self, one, two, difference(one, two)), rows)
            else:
                self.assertIsNone(difference(one, two))
            self.assertEqual([(plan.steps, plan.marks, plan.names, plan.text) for plan in (one, two)], before)

    def test_it_is_a_finding(self):
        found = difference(Plan([DUTY]), Plan([X9]))
        self.assertTrue(issubclass(Difference, Finding))
        self.assertIsInstance(found, Finding)
        self.assertNotIsInstance(found, Leak)

    def test_marks_that_were_changed(self):
        one, two = [Plan([DUTY, ("when", 0, "start", "<", 0)], [3]) for _ in range(2)]
        self.assertIsNone(difference(one, two))
        two.marks = [4]
        self.assertEqual(check_both_ways(self, one, two), 1)
        one.marks = [4]
        self.assertIsNone(difference(one, two))


class NoStoreTellsMore(unittest.TestCase):
    def test_stores_with_fewer_rows(self):
        for one, two, pick, base in like_plans(40):
            rows = check_both_ways(self, one, two)
            marks, width = sorted({*one.marks, *two.marks}), max(one.width, two.width)
            words, moments = words_for(one, two), moments_for(base, marks, width)
            for many in range(1, width + 3 if rows is None else rows):
                for store in stores_with(pick, sorted({*one.names, *two.names}), many, words, moments, 60):
                    answers = [slow_merged(plan(store)) for plan in (one, two)]
                    self.assertEqual(*answers, (one.text, two.text, rows_of(store)))

    def test_larger_stores(self):
        for one, two, pick, base in like_plans(60, 4):
            if difference(one, two) is None:
                for _ in range(5):
                    store = random_store(pick, base)
                    self.assertEqual(slow_merged(one(store)), slow_merged(two(store)), (one.text, two.text))


class WrongPlans(unittest.TestCase):
    def test_other_numbers_of_columns(self):
        for base in BASES:
            many, others = [base, base + 1, base + 2, base + 3], [base + 9, base + 10]
            for marks in ([], many):
                for one, two in (
                    ([DUTY], [ROOM]), ([DUTY], [DUTY, ("keep", 0, (0, 0))]), ([ROOM], [ROOM, ("keep", 0, (1,))]),
                    ([DUTY, ROOM], [DUTY]), ([DUTY], [("table", "duty", 2), ("keep", 0, (1,))]),
                    ([DUTY, X9], [("table", "duty", 2), X9]),
                ):
                    raises_only(self, Mismatch, lambda: difference(Plan(one, marks), Plan(two, others)))
                    raises_only(self, Mismatch, lambda: difference(Plan(two, others), Plan(one, marks)))
                    raises_only(self, Mismatch, lambda: difference(Plan(two), Plan(one)))

    def test_too_many_marks(self):
        for base in BASES:
            def marks(*places):
                return [base + place for place in places]

            pair = pair_of("meet")
            for one, two, good in (
                (Plan([DUTY], marks(0, 1, 2)), Plan([DUTY], marks(3, 4)), False),
                (Plan([DUTY], marks(0, 1, 2)), Plan([DUTY], marks(2, 4)), True),
                (Plan([DUTY], marks(0, 1, 2, 3)), Plan([DUTY], marks(0, 1, 2, 3)), True),
                (Plan([DUTY], marks(0, 1, 2, 3)), Plan([DUTY], marks(4)), False),
                (Plan(pair, marks(0, 1)), Plan(pair, marks(1)), True),
                (Plan(pair, marks(0, 1)), Plan(pair, marks(2)), False),
                (Plan(pair, marks(0)), Plan([DUTY, ("keep", 0, (0, 0))], marks(2, 3)), False),
                (Plan(pair, marks(2)), Plan([DUTY, ("keep", 0, (0, 0))], marks(2, 3)), True),
                (Plan(THREE + [("pair", 3, 2, "meet", ())]), Plan([DUTY, ("keep", 0, (0,) * 4)], marks(0)), False),
            ):
                for first, second in ((one, two), (two, one)):
                    if good:
                        self.assertIn(type(difference(first, second)), (Difference, type(None)))
                    else:
                        raises_only(self, TooMany, lambda: difference(first, second))


def slow_idle(plan, stores):
    """The tests of which no store tells that they matter."""
    idle = []
    for number, step in enumerate(plan.steps):
        for index in range(len(step[4]) if step[0] == "pair" else int(step[0] == "when")):
            less = plan.without(number, index)
            if all(slow_merged(plan(store)) == slow_merged(less(store)) for store in stores):
                idle.append((number, index))
    return idle


class IdleTests(unittest.TestCase):
    def test_by_hand(self):
        for steps, marks, expected in (
            ([DUTY], (), []),
            (pair_of("meet", *OVERLAP), (), [(2, 0), (2, 1)]),
            (pair_of("left", *OVERLAP), (), []),
            (pair_of("right", *OVERLAP), (), []),
            (pair_of("gap", ("stop", "<", "start")), (), [(2, 0)]),
            (pair_of("gap", ("stop", "<=", "start"), ("start", "<", "start"), ("start", "<", "stop")), (),
             [(2, 0), (2, 1), (2, 2)]),
            (pair_of("left", ("start", "<", "start"), ("start", "<=", "start")), (), [(2, 1)]),
            # Each of two equal tests is idle, the other one being kept.
            (pair_of("left", ("start", "<", "start"), ("start", "<", "start")), (), [(2, 0), (2, 1)]),
            ([DUTY, ("when", 0, "start", "<", 0)], (3,), []),
            ([DUTY, ("when", 0, "start", "<", 0), ("when", 1, "start", "<", 1)], (3, 9), [(2, 0)]),
            ([DUTY, ("when", 0, "start", "<", 1), ("clip", 1, 0, 1)], (3, 9), [(1, 0)]),
            ([DUTY, ("when", 0, "start", "<", 0), ("union", 0, 1)], (3,), [(1, 0)]),
            ([DUTY, ("when", 0, "start", "<", 0), ("when", 0, "stop", "=", 0), DUTY], (3,), [(1, 0), (2, 0)]),
            ([DUTY, X9, ("pair", 0, 1, "left", OVERLAP), ("pair", 2, 0, "gap", OVERLAP[:1]), X9], (),
             [(2, 0), (2, 1), (3, 0)]),
            ([DUTY, ("is", 0, 0, "a"), ("is", 1, 0, "b"), ("when", 2, "start", "<", 0)], (3,), [(3, 0)]),
        ):
            for base in BASES:
                plan = Plan(steps, [base + mark for mark in marks])
                self.assertEqual(idle_tests(plan), expected, steps)

    def test_random_plans(self):
        both = [0, 0]
        for plan, pick, base in random_plans(25):
            found = idle_tests(plan)
            self.assertTrue(type(found) is list and is_plain(found))
            self.assertEqual(found, sorted(set(found)))
            stores = [random_store(pick, base, 4) for _ in range(5)]
            self.assertLessEqual(set(found), set(slow_idle(plan, stores)))
            tests = slow_idle(plan, [])
            for number, index in tests:
                expected = difference(plan, plan.without(number, index)) is None
                self.assertEqual((number, index) in found, expected)
                both[expected] += 1
            found.append("more")
            self.assertEqual(idle_tests(plan), found[:-1])
        self.assertGreater(min(both), 40)

    def test_steps_that_are_not_used(self):
        tried = 0
        for plan, _, _ in random_plans(60):
            used = {len(plan.steps) - 1}
            for number in reversed(range(len(plan.steps))):
                if number in used and plan.steps[number][0] != "table":
                    many = 2 if plan.steps[number][0] in ("pair", "union") else 1
                    used.update(plan.steps[number][1:1 + many])
            unused = [test for test in slow_idle(plan, []) if test[0] not in used]
            tried += len(unused)
            self.assertLessEqual(set(unused), set(idle_tests(plan)))
        self.assertGreater(tried, 40)

    def test_all_small_stores(self):
        pick = random.Random(SEED)
        for span in ("meet", "left", "gap", "hull"):
            for test in (("start", "<", "start"), ("stop", ">=", "start"), ("start", "<", "stop"), ("stop", "=", "stop")):
                plan = Plan(pair_of(span, test, OVERLAP[1]))
                stores = list(stores_with(pick, plan.names, 2, ["a"], range(5), 10**9))
                self.assertEqual(idle_tests(plan), slow_idle(plan, stores), plan.text)

    def test_the_plan_stays(self):
        for plan, store in plans_and_stores(5):
            before = (plan.steps, plan.marks, plan(store))
            idle_tests(plan)
            self.assertEqual((plan.steps, plan.marks, plan(store)), before)

    def test_plans_without_tests(self):
        for plan, _ in chosen_plans():
            if not any(step[0] == "when" or (step[0] == "pair" and step[4]) for step in plan.steps):
                self.assertEqual(idle_tests(plan), [])


class HowLong(unittest.TestCase):
    def test_the_largest_plans(self):
        ends = ("start", "stop")
        all_tests = tuple((one, "<=", other) for one in ends for other in ends)
        steps = [ROOM, ("pair", 0, 0, "hull", all_tests), ("pair", 0, 0, "left", all_tests),
                 ("pair", 0, 0, "right", all_tests), ("union", 1, 2), ("union", 4, 3), ("keep", 5, (0,))]
        plan = Plan(steps, (0, 40))
        begun = time.perf_counter()
        found = idle_tests(plan)
        self.assertLess(time.perf_counter() - begun, 3)
        # Marks that no step names do not matter.
        self.assertEqual(found, idle_tests(Plan(steps)))


if __name__ == "__main__":
    unittest.main()
