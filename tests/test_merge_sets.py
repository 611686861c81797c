"""Merge sets: which are least, why each name in them is needed, and answers that they make stable."""

import itertools
import unittest

from cutproof.errors import NoTable, TooMany, WrongColumns
from cutproof.judge import leak, least_merge_sets, stable_answer, why_needed
from cutproof.plans import Plan
from cutproof.tables import Table
from judge_samples import (
    DUTY, LEAKY, ROOM, X9, all_at, chosen_plans, pair_of, random_plans, recut, some_names, with_merged,
)
from plan_samples import SIZES, random_store, rows_of
from samples import BASES, is_plain, moved, raises_only, slow_merged
from test_leaks import check_leak

START = (("start", "<", "start"),)


def subsets(names):
    """All sets of names, smaller ones first."""
    return [some for many in range(len(names) + 1) for some in itertools.combinations(names, many)]


def slow_least_sets(plan):
    """The least merge sets, by asking for a leak of every set."""
    enough = [names for names in subsets(plan.names) if leak(plan, merged=names) is None]
    return [names for names in enough if not any(set(other) < set(names) for other in enough)]


class LeastMergeSets(unittest.TestCase):
    def test_by_hand(self):
        for steps, marks, expected in (
            ([DUTY], 0, [()]),
            (pair_of("meet"), 0, [()]),
            (pair_of("left", *START), 0, [("duty", "x9")]),
            (pair_of("gap"), 0, [("duty", "x9")]),
            ([DUTY, ("when", 0, "start", "=", 0)], 1, [("duty",)]),
            ([DUTY, X9, ("when", 0, "start", "=", 0), ("union", 1, 2)], 1, [("duty",)]),
            ([X9, DUTY, ("when", 0, "start", "=", 0), ("union", 1, 2)], 1, [("x9",)]),
            (pair_of("left", ("start", "<", "stop"), ("stop", ">", "start")), 0, [("duty",)]),
            (pair_of("right", ("start", "<", "stop"), ("stop", ">", "start")), 0, [("x9",)]),
            ([DUTY, ROOM, ("when", 0, "start", "=", 0)], 1, [("duty",)]),
            ([DUTY, ("when", 0, "start", "=", 0), ROOM], 1, [()]),
            ([DUTY, X9, ROOM, ("pair", 1, 1, "gap", ()), ("pair", 3, 0, "left", ())], 0, [("x9",)]),
        ):
            for base in BASES:
                self.assertEqual(least_merge_sets(Plan(steps, all_at(base, marks))), expected, steps)

    def test_three_tables(self):
        steps = [DUTY, X9, ROOM, ("pair", 0, 1, "meet", ()), ("pair", 3, 2, "left", START)]
        self.assertEqual(least_merge_sets(Plan(steps)), [("duty", "room", "x9")])

    def test_stable_plans(self):
        for plan, rows in chosen_plans():
            self.assertEqual(least_merge_sets(plan) == [()], rows is None, plan.text)

    def test_random_plans(self):
        for plan, _, _ in random_plans(60):
            found = least_merge_sets(plan)
            self.assertEqual(found, slow_least_sets(plan), plan.text)
            self.assertTrue(found and type(found) is list and is_plain(found))
            for names in found:
                self.assertEqual((type(names), list(names)), (tuple, sorted(set(names))))
            self.assertEqual(found, sorted(found, key=lambda names: (len(names), names)))
            for names in subsets(plan.names):
                within = any(set(least) <= set(names) for least in found)
                self.assertEqual(leak(plan, merged=names) is None, within)

    def test_asked_twice(self):
        for plan, _ in chosen_plans():
            before = (plan.steps, plan.marks)
            found = least_merge_sets(plan)
            kept = list(found)
            found.append(("more",))
            found.reverse()
            self.assertEqual(least_merge_sets(plan), kept)
            self.assertEqual((plan.steps, plan.marks), before)


class WhyNeeded(unittest.TestCase):
    def check(self, plan, names):
        kept = list(names)
        found = why_needed(plan, names)
        self.assertEqual(list(names), kept)
        self.assertIs(type(found), list)
        self.assertTrue(all(type(reason) is tuple and len(reason) == 2 for reason in found))
        self.assertEqual([name for name, _ in found], sorted(set(names)))
        self.assertTrue(is_plain([name for name, _ in found]))
        for name, reason in found:
            others = [other for other in names if other != name]
            expected = leak(plan, merged=others)
            self.assertEqual(reason is None, expected is None)
            if reason is not None:
                self.assertEqual(check_leak(self, plan, reason, others), check_leak(self, plan, expected, others))
        tables = [table for _, reason in found if reason is not None for table in reason.store.values()]
        self.assertEqual(len({id(table) for table in tables}), len(tables))
        return found

    def test_random_plans(self):
        reasons = []
        for plan, pick, _ in random_plans(25):
            names = some_names(pick, plan)
            for some in (names, list(names), (*names, *names), plan.names[::-1]):
                reasons += [reason is None for _, reason in self.check(plan, some)]
        self.assertEqual(set(reasons), {True, False})

    def test_least_sets_need_all_their_names(self):
        for plan, _, _ in random_plans(25, 5):
            for names in least_merge_sets(plan):
                self.assertNotIn(None, [reason for _, reason in self.check(plan, names)])

    def test_chosen_plans(self):
        for plan, rows in chosen_plans():
            found = self.check(plan, plan.names)
            if rows is None:
                self.assertEqual(found, [(name, None) for name in plan.names])
            self.assertEqual(self.check(plan, ()), [])

    def test_stores_of_their_own(self):
        plan = Plan([DUTY, X9, ("pair", 0, 1, "gap", ())])
        one, two = why_needed(plan, ["x9", "duty"])
        self.assertEqual((one[0], two[0]), ("duty", "x9"))
        one[1].store.clear()
        self.assertEqual(check_leak(self, plan, two[1], ["duty"]), 2)

    def test_names_that_no_table_has(self):
        for steps, marks, _ in LEAKY:
            plan = Plan(steps, all_at(0, marks))
            for names, name in (
                (["z"], "z"), (["b", "a"], "b"), ([plan.names[0], "z", "a"], "z"), (["z", *plan.names], "z"),
                ([*plan.names, *plan.names, "dut"], "dut"),
            ):
                for kind in (list, tuple):
                    error = raises_only(self, NoTable, lambda: why_needed(plan, kind(names)))
                    self.assertEqual((error.name, type(error.name)), (name, str))


class StableAnswers(unittest.TestCase):
    def test_by_hand(self):
        plan = Plan(pair_of("left", *START))
        for base in BASES:
            store = {
                "duty": Table(1, moved([(("a",), 0, 2), (("a",), 2, 6), (("b",), 9, 12)], base)),
                "x9": Table(1, moved([(("c",), 4, 8), (("c",), 3, 5)], base)),
            }
            self.assertEqual(stable_answer(plan, store), [(("a", "c"), base, base + 6)])
            store["x9"] = Table(1, moved([(("c",), 3, 8), (("d",), 10, 20)], base))
            self.assertEqual(stable_answer(plan, store), [
                (("a", "c"), base, base + 6), (("a", "d"), base, base + 6), (("b", "d"), base + 9, base + 12),
            ])
        touching = {"duty": Table(1, [(("a",), 0, 2), (("a",), 2, 6), (("b",), 0, 1)])}
        self.assertEqual(stable_answer(Plan([DUTY]), touching), [(("a",), 0, 6), (("b",), 0, 1)])

    def check(self, plan, pick, store, sets):
        before = rows_of(store)
        expected = slow_merged(plan(with_merged(store, sets[0])))
        answer = stable_answer(plan, store)
        self.assertEqual(answer, expected)
        self.assertTrue(type(answer) is list and is_plain(answer))
        self.assertEqual(rows_of(store), before)
        answer.append("more")
        other = recut(pick, store)
        self.assertEqual(stable_answer(plan, other), expected)
        for names in subsets(plan.names):
            if any(set(least) <= set(names) for least in sets):
                self.assertEqual(slow_merged(plan(with_merged(other, names))), expected)

    def test_random_plans(self):
        for plan, pick, base in random_plans(30):
            sets = least_merge_sets(plan)
            for _ in range(3):
                self.check(plan, pick, random_store(pick, base, 4), sets)

    def test_chosen_plans(self):
        for base in BASES:
            for (plan, _), (_, pick, _) in zip(chosen_plans(base), random_plans(9)):
                self.check(plan, pick, random_store(pick, base, 4), least_merge_sets(plan))

    def test_a_store_without_rows(self):
        store = {name: Table(columns) for name, columns in SIZES.items()}
        for plan, _ in chosen_plans():
            self.assertEqual(stable_answer(plan, store), [])


class StableAnswerErrors(unittest.TestCase):
    def check(self, steps, store, error, name=None, marks=0):
        before = rows_of(store)
        raised = raises_only(self, error, lambda: stable_answer(Plan(steps, all_at(0, marks)), store))
        self.assertEqual(getattr(raised, "name", None), name)
        self.assertEqual(rows_of(store), before)

    def test_what_the_plan_raises(self):
        one, two = Table(1), Table(2)
        for steps in (pair_of("left", *START), pair_of("meet"), pair_of("left", ("start", "<", "stop"))):
            self.check(steps, {}, NoTable, "duty")
            self.check(steps, {"x9": one}, NoTable, "duty")
            self.check(steps, {"duty": one}, NoTable, "x9")
            self.check(steps, {"duty": one, "x9": two}, WrongColumns, "x9")
            self.check(steps, {"duty": two}, WrongColumns, "duty")

    def test_rows_that_lie_apart(self):
        apart = Table(1, [(("a",), 2 * at, 2 * at + 1) for at in range(41)])
        for steps in (pair_of("left", *START), pair_of("meet")):
            for name in ("duty", "x9"):
                store = {"duty": Table(1), "x9": Table(1), name: apart}
                self.check(steps, store, TooMany)

    def test_rows_that_touch(self):
        touching = Table(1, [(("a",), at, at + 1) for at in range(41)])
        few = Table(1, [(("c",), 10, 20)])
        for steps, names in (
            (pair_of("meet"), ()), (pair_of("left", *START), ("duty", "x9")),
            (pair_of("left", ("start", "<", "stop"), ("stop", ">", "start")), ("duty",)),
            (pair_of("right", ("start", "<", "stop"), ("stop", ">", "start")), ("x9",)),
        ):
            self.assertEqual(least_merge_sets(Plan(steps)), [names])
            for name in ("duty", "x9"):
                store = {"duty": few, "x9": few, name: touching}
                if name in names:
                    merged = slow_merged(Plan(steps)(with_merged(store, names)))
                    self.assertEqual(stable_answer(Plan(steps), store), merged)
                    self.assertEqual(len(store[name]), 41)
                else:
                    self.check(steps, store, TooMany)

    def test_other_tables_do_not_matter(self):
        many = Table(2, [(("a", "b"), 2 * at, 2 * at + 1) for at in range(60)])
        store = {"duty": Table(1, [(("a",), 0, 3)]), "x9": Table(1), "room": many, "zz": many}
        self.assertEqual(stable_answer(Plan([DUTY]), store), [(("a",), 0, 3)])


if __name__ == "__main__":
    unittest.main()
