"""Plans made of stable plans, and marks that are moved or have wider gaps."""

import unittest

from cutproof.errors import CutError
from cutproof.judge import idle_tests, leak, least_merge_sets
from cutproof.plans import Plan, paired, united
from judge_samples import DUTY, chosen_plans, count_rows, random_plans, some_names
from samples import BASES

BIG = 10**20


def made(call):
    """The plan that a call makes, or None if it goes beyond a bound."""
    try:
        return call()
    except CutError:
        return None


def behind(plan, step):
    """The plan with one more step, which refers to its last one."""
    kind, *parts = step
    return made(lambda: Plan([*plan.steps, (kind, len(plan.steps) - 1, *parts)], plan.marks))


def longer_plans(plan):
    """The plan with each step behind it that keeps a stable plan stable."""
    columns = range(plan.columns)
    steps = [("same", i, j) for i in columns for j in columns]
    steps += [("is", i, word) for i in columns for word in ("a", "w1", "zz")]
    steps += [("keep", kept) for kept in ((0,), tuple(columns), tuple(columns)[::-1], (0, 0))]
    steps += [("clip", i, j) for j in range(len(plan.marks)) for i in range(j)]
    return [longer for longer in (behind(plan, step) for step in steps) if longer is not None]


class PlansOfStablePlans(unittest.TestCase):
    def stable_plans(self, many):
        """Stable plans, those with the same marks together."""
        for plan, rows in chosen_plans():
            if rows is None and not plan.marks:
                yield plan
        for plan, pick, _ in random_plans(many):
            plan = Plan(plan.steps, range(4)[:len(plan.marks)])
            if len(plan.steps) < 6 and leak(plan) is None:
                yield plan

    def test_unions_and_pairs(self):
        plans = list(self.stable_plans(25))
        unions = pairs = 0
        for at, one in enumerate(plans):
            for two in [other for other in plans[at:] if other.marks == one.marks][:6]:
                union = made(lambda: united(one, two))
                if union is not None:
                    unions += 1
                    self.assertIsNone(leak(union), union.text)
                for span in ("meet", "left", "right", "hull"):
                    pair = made(lambda: paired(one, two, span=span))
                    if pair is not None:
                        pairs += 1
                        self.assertIsNone(leak(pair), pair.text)
        self.assertGreater(min(unions, pairs), 100)

    def test_steps_behind(self):
        tried = 0
        for plan in self.stable_plans(20):
            for longer in longer_plans(plan):
                tried += 1
                self.assertIsNone(leak(longer), longer.text)
        self.assertGreater(tried, 200)

    def test_the_union_with_itself_and_the_keep_of_all_columns(self):
        for plan, pick, _ in random_plans(50):
            stable = leak(plan) is None
            for other in (made(lambda: united(plan, plan)), behind(plan, ("keep", tuple(range(plan.columns))))):
                if other is not None:
                    self.assertEqual(leak(other) is None, stable, plan.text)

    def test_a_gap_of_stable_plans_need_not_be_stable(self):
        duty = Plan([DUTY])
        self.assertIsNone(leak(duty))
        self.assertIsNotNone(leak(paired(duty, duty, span="gap")))
        self.assertIsNotNone(leak(paired(duty, duty, ("start", "<", "start"), span="left")))


class MovedMarks(unittest.TestCase):
    def rows(self, plan, merged=()):
        found = leak(plan, merged=merged)
        return found and count_rows(found.store)

    def marked(self, many):
        for plan, _ in chosen_plans():
            if plan.marks:
                yield plan, ()
        for plan, pick, _ in random_plans(many):
            if plan.marks:
                yield plan, some_names(pick, plan) if pick.randrange(2) else ()

    def test_all_moved_by_one_number(self):
        for plan, merged in self.marked(25):
            before = self.rows(plan, merged), idle_tests(plan), least_merge_sets(plan)
            for by in (1, -7, BIG, -BIG, BASES[-1] - plan.marks[0]):
                moved = Plan(plan.steps, [mark + by for mark in plan.marks])
                self.assertEqual((self.rows(moved, merged), idle_tests(moved), least_merge_sets(moved)), before)
            marks = plan.marks
            plan.change_marks([mark + 5 for mark in marks])
            self.assertEqual((self.rows(plan, merged), idle_tests(plan), least_merge_sets(plan)), before)
            plan.marks = marks
            self.assertEqual((self.rows(plan, merged), idle_tests(plan), least_merge_sets(plan)), before)

    def test_wider_gaps(self):
        for plan, merged in self.marked(40):
            before = self.rows(plan, merged)
            for wider in (1, 2, 5, 40):
                marks = [mark + wider * place for place, mark in enumerate(plan.marks)]
                after = self.rows(Plan(plan.steps, marks), merged)
                if before is not None:
                    self.assertIsNotNone(after)
                    self.assertLessEqual(after, before)

    def test_a_gap_without_room_for_a_cut(self):
        steps = [DUTY, ("when", 0, "start", ">", 0), ("when", 1, "stop", "<", 1)]
        for base in BASES:
            for gap, expected in ((1, None), (2, None), (3, 1), (4, 1), (9, 1), (10**15, 1)):
                self.assertEqual(self.rows(Plan(steps, (base, base + gap))), expected)

    def test_gaps_that_are_wide_enough(self):
        for plan, merged in self.marked(40):
            enough = 2 * plan.width + 2
            found = []
            for gaps in ([enough] * 4, [enough + 1, enough + 9, enough], [BIG, enough, BIG], [40] * 4):
                marks = [plan.marks[0] + sum(gaps[:place]) for place in range(len(plan.marks))]
                other = Plan(plan.steps, marks)
                found.append((self.rows(other, merged), least_merge_sets(other), idle_tests(other)))
            self.assertEqual(found, found[:1] * len(found), plan.text)


if __name__ == "__main__":
    unittest.main()
