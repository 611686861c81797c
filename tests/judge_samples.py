"""What the tests of leaks and differences share: plans, small stores, and stores that say the same."""

import itertools
import math
import random

from cutproof.errors import CutError
from cutproof.plans import Plan
from cutproof.tables import Table
from plan_samples import COMPARE, ENDS, SIZES, SPANS, random_plan
from samples import BASES, SEED

DUTY, ROOM, X9 = ("table", "duty", 1), ("table", "room", 2), ("table", "x9", 1)
OPPOSITE = {"<": ">=", "<=": ">", ">": "<=", ">=": "<"}


def pair_of(span, *tests, first=DUTY, second=X9):
    """The steps of a plan that pairs two tables."""
    return [first, second, ("pair", 0, 1, span, tuple(tests))]


def split_pair(span, test, *others):
    """The steps of a plan that tells the pairs that pass a test and also those that do not."""
    end, sign, other = test
    return [
        DUTY, X9, ("pair", 0, 1, span, ((end, sign, other), *others)),
        ("pair", 0, 1, span, (*others, (end, OPPOSITE[sign], other))), ("union", 2, 3),
    ]


def all_at(base, many):
    """Marks from a base on, four moments apart."""
    return tuple(base + 4 * place for place in range(many))


# Plans that are stable, as steps and the number of marks, each for a reason of its own.
STABLE = (
    ([DUTY], 0), ([ROOM, ("keep", 0, (1,))], 4), ([ROOM, ("same", 0, 0, 1)], 0), ([ROOM, ("is", 0, 1, "a")], 1),
    ([DUTY, ("clip", 0, 0, 1)], 2), ([DUTY, X9, ("union", 0, 1)], 0), (pair_of("meet"), 0), (pair_of("hull"), 0),
    (pair_of("left"), 0), (pair_of("right"), 0), (pair_of("meet", ("start", "<", "stop"), ("stop", ">", "start")), 2),
    (split_pair("left", ("start", "<", "start")), 0), (split_pair("right", ("stop", "<=", "start")), 1),
    ([DUTY, ("pair", 0, 0, "left", ()), ("keep", 1, (0,))], 0), ([DUTY, ("pair", 0, 0, "meet", ()), X9], 0),
    ([DUTY, X9, ("pair", 0, 1, "gap", (("start", ">", "start"),))], 0),
    ([DUTY, ("when", 0, "start", "<", 0), ("when", 0, "start", ">=", 0), ("union", 1, 2)], 1),
    ([DUTY, X9, ROOM, ("pair", 0, 1, "meet", ()), ("pair", 3, 2, "meet", ())], 0),
    ([DUTY, ("when", 0, "stop", ">", 0), ("clip", 1, 0, 1)], 2),
)

# Plans that are not, with the fewest rows of a store that shows it.
LEAKY = (
    (pair_of("left", ("start", "<", "start")), 0, 2), (pair_of("right", ("start", "<=", "start")), 0, 2),
    (pair_of("gap"), 0, 2), (pair_of("left", ("start", "<", "stop"), ("stop", ">", "start")), 0, 2),
    ([DUTY, ("pair", 0, 0, "left", (("start", "<", "start"),))], 0, 1),
    ([DUTY, ("pair", 0, 0, "left", (("start", "<", "start"),)), ("keep", 1, (0,))], 0, 1),
    ([DUTY, ("pair", 0, 0, "left", (("stop", "<", "start"),))], 0, 2), ([DUTY, ("pair", 0, 0, "gap", ())], 0, 2),
    ([DUTY, ("when", 0, "start", "=", 0)], 1, 1), ([DUTY, ("when", 0, "stop", "<", 0)], 1, 1),
    ([DUTY, ("when", 0, "start", "<", 0), ("clip", 1, 0, 1)], 2, 1),
    ([DUTY, ("when", 0, "start", ">=", 0), ("is", 0, 0, "a"), ("union", 1, 2)], 1, 1),
    ([DUTY, ("when", 0, "start", ">", 0), ("is", 0, 0, "w1"), ("union", 1, 2)], 1, 1),
    ([DUTY, X9, ROOM, ("pair", 0, 1, "meet", ()), ("pair", 3, 2, "left", (("start", "<", "start"),))], 0, 3),
    ([DUTY, X9, ROOM, ("pair", 0, 1, "hull", ()), ("pair", 3, 2, "left", (("start", "=", "stop"),))], 0, 3),
    ([DUTY, X9, ROOM, ("pair", 0, 1, "gap", ()), ("pair", 3, 2, "left", ())], 0, 3),
)


def chosen_plans(base=0):
    """The stable plans and then the others, with the fewest rows of a leak or None."""
    for steps, marks in STABLE:
        yield Plan(steps, all_at(base, marks)), None
    for steps, marks, rows in LEAKY:
        yield Plan(steps, all_at(base, marks)), rows


def random_marks(pick, base):
    return tuple(sorted(base + at for at in pick.sample(range(6), pick.choice([0, 0, 0, 1, 1, 2, 2, 3, 4]))))


def random_plans(many, seed=SEED):
    """Random plans near each base, and what picked them."""
    pick = random.Random(seed)
    for base in BASES:
        for _ in range(many):
            yield random_plan(pick, random_marks(pick, base)), pick, base


def random_test(pick):
    return pick.choice(ENDS), pick.choice(sorted(COMPARE)), pick.choice(ENDS)


def changed_pair(pick, step):
    """A pair with another span, or with one test more or less."""
    kind, left, right, span, tests = step
    tests = list(tests)
    if pick.randrange(3) == 0:
        return kind, left, right, pick.choice(SPANS), tuple(tests)
    if tests and pick.randrange(2):
        tests.pop(pick.randrange(len(tests)))
    tests.insert(pick.randrange(len(tests) + 1), random_test(pick))
    return kind, left, right, span, tuple(tests)


def plan_like(pick, plan):
    """A plan that differs a little from the other one, or says the same in another way."""
    steps = list(plan.steps)
    pairs = [number for number, step in enumerate(steps) if step[0] == "pair"]
    marks = plan.marks
    if marks and pick.randrange(3) == 0:
        marks = (*marks[:-1], marks[-1] + pick.randrange(2))
    elif steps[-1][0] == "pair" and pick.randrange(2):
        # The pairs that pass a test, and those that do not.
        kind, left, right, span, tests = steps.pop()
        end, other, sign = pick.choice(ENDS), pick.choice(ENDS), pick.choice(sorted(OPPOSITE))
        for each in (sign, OPPOSITE[sign]):
            steps.append((kind, left, right, span, ((end, each, other), *tests)))
        steps.append(("union", len(steps) - 2, len(steps) - 1))
    elif pairs:
        number = pick.choice(pairs)
        steps[number] = changed_pair(pick, steps[number])
    else:
        steps.append(("union", len(steps) - 1, len(steps) - 1))
    try:
        return Plan(steps, marks)
    except CutError:
        return plan


def words_for(*plans):
    """The words of plans and two others."""
    return sorted({step[3] for plan in plans for step in plan.steps if step[0] == "is"} | {"x", "y"})


def moments_for(base, marks, width):
    """Moments around the marks, or as many as the order of the rows and of a cut can need."""
    return range(marks[0] - 3, marks[-1] + 4) if marks else range(base, base + 2 * width + 1)


def stores_with(pick, names, many, words, moments, most):
    """The stores with exactly so many rows, or some of them if there are too many."""
    rows = [
        (name, (data, start, stop)) for name in names for data in itertools.product(words, repeat=SIZES[name])
        for start in moments for stop in moments if start < stop
    ]
    if math.comb(len(rows), many) <= most:
        tried = itertools.combinations(rows, many)
    else:
        tried = [pick.sample(rows, many) for _ in range(most)]
    for some in tried:
        yield {name: Table(SIZES[name], [row for its_name, row in some if its_name == name]) for name in names}


def count_rows(store):
    return sum(len(table) for table in store.values())


def cuts_of(store, names):
    """All cuts of the rows of some tables."""
    for name in names:
        for row in list(store[name]):
            for at in range(row[1] + 1, row[2]):
                yield name, row, at


def recut_table(pick, table):
    """A table that says the same: some rows are cut, also into pieces that overlap, and some are there twice."""
    rows = []
    for data, start, stop in table:
        one, other = sorted(pick.randrange(start, stop + 1) for _ in range(2))
        rows.append((data, start, stop))
        if pick.randrange(3):
            rows.pop()
            rows += [(data, *piece) for piece in ((start, other), (one, stop)) if piece[0] < piece[1]]
            rows = rows if start < other and one < stop else [*rows, (data, start, stop)]
    return table.merged() if pick.randrange(6) == 0 else Table(table.columns, rows)


def recut(pick, store):
    return {name: recut_table(pick, table) for name, table in store.items()}


def with_merged(store, names):
    """The store with some tables merged."""
    return {name: table.merged() if name in names else table for name, table in store.items()}


def some_names(pick, plan):
    """A merge set, in any order."""
    return tuple(pick.sample(plan.names, pick.randrange(len(plan.names) + 1)))
