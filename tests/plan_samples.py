"""What the tests of plans share: plans and stores of many kinds, and slow answers to compare with."""

import itertools
import operator
import random

from cutproof.errors import CutError
from cutproof.plans import Plan
from cutproof.tables import Table
from samples import BASES, SEED

ENDS = ("start", "stop")
COMPARE = {"<": operator.lt, "<=": operator.le, "=": operator.eq, ">=": operator.ge, ">": operator.gt}
SPANS = ("meet", "hull", "left", "right", "gap")
WORDS = ("a", "b", "c1")
SIZES = {"duty": 1, "room": 2, "x9": 1}


def slow_span(left, right, span):
    """The start and the stop of a pair of rows."""
    starts, stops = (left[1], right[1]), (left[2], right[2])
    return {
        "meet": (max(starts), min(stops)), "hull": (min(starts), max(stops)),
        "left": left[1:], "right": right[1:], "gap": (left[2], right[1]),
    }[span]


def part(row, end):
    return row[1 + ENDS.index(end)]


def of_pair(left, right, many, span, tests):
    """What tells the row of a pair from chosen rows, the first `many` of which are for the left side."""
    def told(rows):
        one, other = left(rows[:many]), right(rows[many:])
        if one is None or other is None:
            return None
        if not all(COMPARE[sign](part(one, end), part(other, end_of_other)) for end, sign, end_of_other in tests):
            return None
        start, stop = slow_span(one, other, span)
        return (one[0] + other[0], start, stop) if start < stop else None

    return told


def of_one(told_before, step, marks):
    """What tells the row of a step that refers to one other step."""
    def told(rows):
        row = told_before(rows)
        if row is None:
            return None
        data, start, stop = row
        if step[0] == "same":
            return row if data[step[2]] == data[step[3]] else None
        if step[0] == "is":
            return row if data[step[2]] == step[3] else None
        if step[0] == "when":
            return row if COMPARE[step[3]](part(row, step[2]), marks[step[4]]) else None
        if step[0] == "clip":
            held = [at for at in (start, marks[step[2]]) if at >= start and at >= marks[step[2]]][0]
            ends = [at for at in (stop, marks[step[3]]) if at <= stop and at <= marks[step[3]]][0]
            return (data, held, ends) if held < ends else None
        return tuple(data[column] for column in step[2]), start, stop

    return told


def slow_readings(steps, marks, number):
    """The readings of a step, each as the table names of its places and what tells its row."""
    step = steps[number]
    if step[0] == "table":
        return [((step[1],), lambda rows: rows[0])]
    before = slow_readings(steps, marks, step[1])
    if step[0] == "union":
        return before + slow_readings(steps, marks, step[2])
    if step[0] == "pair":
        behind = slow_readings(steps, marks, step[2])
        return [
            (left + right, of_pair(tell_left, tell_right, len(left), step[3], step[4]))
            for left, tell_left in before for right, tell_right in behind
        ]
    return [(places, of_one(told, step, marks)) for places, told in before]


def slow_answer(steps, marks, store):
    """The answer as the rows that the readings tell for all choices of rows."""
    found = set()
    for places, told in slow_readings(steps, marks, len(steps) - 1):
        for rows in itertools.product(*[list(store[name]) for name in places]):
            found.add(told(rows))
    return sorted(found - {None})


def random_step(pick, number, columns, marks):
    """A step that may be valid as the last one behind steps with the given numbers of columns."""
    kind = pick.choice(["table", "same", "is", "when", "clip", *["pair"] * 8, "union", "keep"])
    # The later of two, so that many steps are used by the last one.
    one, other = max(pick.randrange(number), pick.randrange(number)), pick.randrange(number)
    column = pick.randrange(columns[one])
    if kind == "table":
        name = pick.choice(sorted(SIZES))
        return kind, name, SIZES[name]
    if kind == "same":
        return kind, one, column, pick.randrange(columns[one])
    if kind == "is":
        return kind, one, column, pick.choice(WORDS)
    if kind == "when":
        return kind, one, pick.choice(ENDS), pick.choice(sorted(COMPARE)), pick.randrange(max(marks, 1))
    if kind == "clip":
        return kind, one, pick.randrange(max(marks, 1)), pick.randrange(max(marks, 1))
    if kind == "pair":
        tests = [(pick.choice(ENDS), pick.choice(sorted(COMPARE)), pick.choice(ENDS)) for _ in range(4)]
        return kind, one, other, pick.choice(SPANS), tuple(tests[:pick.choice([0, 0, 1, 1, 2, 4])])
    if kind == "union":
        return kind, one, other
    return kind, one, tuple(pick.randrange(columns[one]) for _ in range(pick.choice([1, 1, 2, 3])))


def random_plan(pick, marks=()):
    """A plan of random steps; those that would make it invalid are left out."""
    names = pick.sample(sorted(SIZES), pick.choice([1, 2, 2, 3]))
    steps, columns = [("table", name, SIZES[name]) for name in names], [SIZES[name] for name in names]
    for _ in range(pick.choice([2, 4, 8])):
        step = random_step(pick, len(steps), columns, len(marks))
        try:
            columns.append(Plan([*steps, step], marks).columns)
        except CutError:
            continue
        steps.append(step)
    return Plan(steps, marks)


def random_table(pick, columns, base, most=5):
    rows = []
    for _ in range(pick.randrange(most + 1)):
        start = base + pick.randrange(-4, 9)
        data = tuple(pick.choice(WORDS) for _ in range(columns))
        rows.append((data, start, start + 1 + pick.randrange(6)))
    return Table(columns, rows)


def random_store(pick, base, most=5):
    """A store with all tables that a random plan may name."""
    return {name: random_table(pick, columns, base, most) for name, columns in SIZES.items()}


def plans_and_stores(many, most=5):
    """Plans with a store for each; the moments lie near 0, below 0 and far from it."""
    pick = random.Random(SEED)
    for base in BASES:
        for _ in range(many):
            marks = sorted(base + at for at in pick.sample(range(-3, 12), pick.choice([0, 0, 1, 2, 2, 3, 4])))
            yield random_plan(pick, tuple(marks)), random_store(pick, base, most)


def rows_of(store):
    """The rows of all tables of a store, to see whether it stays."""
    return {name: (table.columns, list(table)) for name, table in store.items()}
