"""Plans that are made from plans: joined ones, and ones that lack a test."""

import random
import unittest

from cutproof.errors import BadStep, Mismatch, NoTest, TooMany
from cutproof.plans import Plan, paired, united
from samples import BASES, SEED, is_plain, raises_only
from plan_samples import plans_and_stores, random_plan, random_store, slow_answer

DUTY, ROOM = ("table", "duty", 1), ("table", "room", 2)
TESTS = (("start", "<", "stop"), ("stop", ">=", "start"), ("start", "=", "start"))


def moved(step, by):
    """A step with its step numbers moved, by the place of the numbers in each kind."""
    if step[0] == "table":
        return step
    if step[0] in ("pair", "union"):
        return (step[0], step[1] + by, step[2] + by, *step[3:])
    return (step[0], step[1] + by, *step[2:])


def united_steps(plans):
    steps = list(plans[0].steps)
    for plan in plans[1:]:
        behind = [moved(step, len(steps)) for step in plan.steps]
        steps = steps + behind + [("union", len(steps) - 1, len(steps) + len(behind) - 1)]
    return steps


def paired_steps(left, right, tests, span):
    behind = [moved(step, len(left.steps)) for step in right.steps]
    last = len(left.steps) - 1
    return [*left.steps, *behind, ("pair", last, last + len(behind), span, tests)]


def outcome(call):
    """What a call returns, or the class and number of the error that it raises."""
    try:
        plan = call()
    except (BadStep, TooMany) as error:
        return type(error), getattr(error, "number", None)
    return plan.steps, plan.marks, plan.columns, plan.names


class Joining(unittest.TestCase):
    def plans(self, many=60):
        """Two or three plans with the same marks, and a store."""
        pick = random.Random(SEED)
        for base in BASES:
            for _ in range(many):
                marks = sorted(base + at for at in pick.sample(range(-3, 12), pick.choice([0, 0, 1, 2])))
                yield [random_plan(pick, marks) for _ in range(3)], random_store(pick, base, 3)

    def test_by_hand(self):
        one = Plan([DUTY, ("keep", 0, (0, 0))], [3])
        two = Plan([ROOM, ("same", 0, 0, 1), ("when", 1, "stop", "<", 0)], [3])
        self.assertEqual(united(one, two).steps, (
            DUTY, ("keep", 0, (0, 0)), ROOM, ("same", 2, 0, 1), ("when", 3, "stop", "<", 0), ("union", 1, 4),
        ))
        self.assertEqual(united(one, two, one).steps[-3:], (DUTY, ("keep", 6, (0, 0)), ("union", 5, 7)))
        self.assertEqual(united(one).steps, one.steps)
        self.assertEqual(paired(two, one).steps[-1], ("pair", 2, 4, "meet", ()))
        self.assertEqual(paired(one, two, *TESTS, span="gap").steps[-1], ("pair", 1, 4, "gap", TESTS))
        pair = Plan([DUTY, ("pair", 0, 0, "hull", TESTS), ("keep", 1, (0,)), ("clip", 2, 0, 1)], [3, 4])
        other = Plan([ROOM, ("is", 0, 1, "a"), ("keep", 1, (0,))], [3, 4])
        self.assertEqual(united(other, pair).steps, (
            ROOM, ("is", 0, 1, "a"), ("keep", 1, (0,)),
            DUTY, ("pair", 3, 3, "hull", TESTS), ("keep", 4, (0,)), ("clip", 5, 0, 1), ("union", 2, 6),
        ))

    def test_united(self):
        made = 0
        for plans, store in self.plans():
            for some in (plans[:1], plans[:2], plans, plans[::-1]):
                steps = united_steps(some)
                expected = outcome(lambda: Plan(steps, some[0].marks))
                self.assertEqual(outcome(lambda: united(*some)), expected)
                if isinstance(expected[0], tuple):
                    made += 1
                    answers = [row for plan in some for row in plan(store)]
                    self.assertEqual(united(*some)(store), sorted(set(answers)))
        self.assertGreater(made, 200)

    def test_paired(self):
        made = 0
        pick = random.Random(SEED)
        for (left, right, _), store in self.plans():
            tests = tuple(pick.sample(TESTS, pick.randrange(4)))
            for span in ("meet", "hull", "left", "right", "gap"):
                steps = paired_steps(left, right, tests, span)
                expected = outcome(lambda: Plan(steps, left.marks))
                self.assertEqual(outcome(lambda: paired(left, right, *tests, span=span)), expected)
                if isinstance(expected[0], tuple):
                    made += 1
                    answer = paired(left, right, *tests, span=span)(store)
                    self.assertEqual(answer, slow_answer(steps, left.marks, store))
            meet = paired_steps(left, right, (), "meet")
            self.assertEqual(outcome(lambda: paired(left, right)), outcome(lambda: Plan(meet, left.marks)))
        self.assertGreater(made, 200)

    def test_errors_of_the_new_plan(self):
        one, two = Plan([DUTY]), Plan([ROOM])
        self.assertEqual(raises_only(self, BadStep, lambda: united(one, two)).number, 2)
        self.assertEqual(raises_only(self, BadStep, lambda: united(one, one, two, one)).number, 4)
        self.assertEqual(raises_only(self, BadStep, lambda: paired(one, two, span="both")).number, 2)
        self.assertEqual(raises_only(self, BadStep, lambda: paired(one, two, ("start", "<"))).number, 2)
        self.assertEqual(raises_only(self, BadStep, lambda: united(one, Plan([("table", "duty", 2)]))).number, 1)
        raises_only(self, TooMany, lambda: united(*[one] * 7))
        self.assertEqual(len(united(*[one] * 6).steps), 11)
        six = Plan([DUTY] * 6)
        raises_only(self, TooMany, lambda: united(six, six))
        raises_only(self, TooMany, lambda: paired(six, six))
        self.assertEqual(len(united(six, Plan([DUTY] * 5)).steps), 12)
        raises_only(self, TooMany, lambda: paired(one, one, *[TESTS[0]] * 5))
        wide = Plan([DUTY, ("pair", 0, 0, "hull", ())])
        raises_only(self, TooMany, lambda: paired(wide, wide))
        marked = Plan([DUTY], [1, 2, 3])
        raises_only(self, TooMany, lambda: paired(marked, marked))

    def test_other_marks_come_first(self):
        for base in BASES:
            plans = [Plan([DUTY] * 7, marks) for marks in ((base, base + 4), (base,), (), (base, base + 5))]
            others = [Plan([ROOM] * 7, plan.marks) for plan in plans]
            for at, one in enumerate(plans):
                for other in others[:at] + others[at + 1:]:
                    for call in (
                        lambda: united(one, other), lambda: united(one, one, other), lambda: united(one, other, one),
                        lambda: paired(one, other), lambda: paired(one, other, ("now",), span="both"),
                    ):
                        raises_only(self, Mismatch, call)

    def test_marks_that_were_changed(self):
        one, two = Plan([DUTY], [1]), Plan([DUTY], [2])
        raises_only(self, Mismatch, lambda: united(one, two))
        one.marks = [2]
        self.assertEqual((united(one, two).marks, paired(one, two).marks), ((2,), (2,)))

    def test_the_plans_stay(self):
        for plans, store in self.plans(10):
            before = [(plan.steps, plan.marks, plan.columns, plan.names, plan(store)) for plan in plans]
            outcome(lambda: united(*plans))
            outcome(lambda: paired(*plans[:2], *TESTS))
            after = [(plan.steps, plan.marks, plan.columns, plan.names, plan(store)) for plan in plans]
            self.assertEqual(after, before)

    def test_a_new_plan_from_one(self):
        plan = Plan([DUTY], [5])
        new = united(plan)
        self.assertIsNot(new, plan)
        new.marks = [6]
        self.assertEqual(plan.marks, (5,))


class Without(unittest.TestCase):
    def test_by_hand(self):
        pair = ("pair", 0, 1, "left", TESTS)
        plan = Plan([DUTY, ROOM, pair, ("when", 2, "stop", "<", 0), ("keep", 3, (0,))], [4])
        for index, left in ((0, TESTS[1:]), (1, (TESTS[0], TESTS[2])), (2, TESTS[:2])):
            less = plan.without(2, index)
            self.assertEqual(less.steps, (DUTY, ROOM, ("pair", 0, 1, "left", left), *plan.steps[3:]))
            self.assertEqual(less.marks, (4,))
        less = plan.without(3, 0)
        self.assertEqual(less.steps, (DUTY, ROOM, pair, ("keep", 2, (0, 1, 2)), ("keep", 3, (0,))))
        self.assertEqual((less.marks, type(less)), ((4,), Plan))
        one = Plan([("table", "x9", 1), ("when", 0, "start", "<", 0)], [4])
        self.assertEqual(one.without(1, 0).steps[1], ("keep", 0, (0,)))
        last = Plan([DUTY, ("pair", 0, 0, "gap", TESTS[:1])]).without(1, 0)
        self.assertEqual(last.steps[1], ("pair", 0, 0, "gap", ()))

    def test_random_plans(self):
        for plan, store in plans_and_stores(60):
            before = (plan.steps, plan.marks, plan(store))
            for number, step in enumerate(plan.steps):
                many = len(step[4]) if step[0] == "pair" else int(step[0] == "when")
                for index in range(-1, many + 2):
                    if 0 <= index < many:
                        self.check(plan, number, index, store)
                    else:
                        raises_only(self, NoTest, lambda: plan.without(number, index))
                if many:
                    raises_only(self, NoTest, lambda: plan.without(number, -many))
                    raises_only(self, NoTest, lambda: plan.without(number - len(plan.steps), 0))
            for number in (-1, -2, -len(plan.steps), len(plan.steps), len(plan.steps) + 1, 99):
                for index in (-1, 0, 1):
                    raises_only(self, NoTest, lambda: plan.without(number, index))
            self.assertEqual((plan.steps, plan.marks, plan(store)), before)

    def check(self, plan, number, index, store):
        less = plan.without(number, index)
        step = plan.steps[number]
        if step[0] == "pair":
            tests = list(step[4])
            del tests[index]
            changed = (*step[:4], tuple(tests))
        else:
            changed = ("keep", step[1], tuple(range(Plan(plan.steps[:step[1] + 1], plan.marks).columns)))
        steps = [changed if at == number else other for at, other in enumerate(plan.steps)]
        self.assertEqual((less.steps, less.marks), (tuple(steps), plan.marks))
        self.assertTrue(is_plain(less.steps))
        self.assertEqual(less(store), slow_answer(steps, plan.marks, store))
        self.assertLessEqual(set(plan(store)), set(less(store)))


if __name__ == "__main__":
    unittest.main()
