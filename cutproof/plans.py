"""Query plans."""

from cutproof.checks import checked_shapes, width_of
from cutproof.errors import BadLine, BadMarks, BadStep, Mismatch, NoTable, NoTest, TooMany, WrongColumns
from cutproof.notation import format_step, parse_step
from cutproof.orders import check_marks
from cutproof.running import step_rows
from cutproof.steps import count_tests, moved_steps, plain_part, sources, table_sizes, used_steps

MOST_ROWS = 40


class Plan:
    """Steps that together give rows from the tables of a store."""

    def __init__(self, steps, marks=()):
        self._shapes = checked_shapes(steps, marks)
        self._marks = plain_part(tuple(marks))
        self.steps = plain_part(tuple(steps))
        self.columns = self._shapes[-1][0]
        self._sizes = table_sizes(self.steps)
        self.names = tuple(sorted(self._sizes))

    @staticmethod
    def read(text, marks=()):
        """Return the plan of a text."""
        steps = [parse_step(line, number) for number, line in enumerate(text.split("\n"), start=1)]
        try:
            return Plan(steps, marks)
        except BadStep as error:
            raise BadLine(error.number + 1) from error

    @property
    def marks(self):
        """The marks of the plan."""
        return self._marks

    @marks.setter
    def marks(self, value):
        """Replace the marks by as many others."""
        check_marks(value)
        if len(value) != len(self._marks):
            raise BadMarks("there are not as many marks as before")
        self._marks = plain_part(tuple(value))

    def change_marks(self, marks):
        """Replace the marks by as many others."""
        self.marks = marks

    @property
    def width(self):
        """The greatest number of places of a reading of the plan."""
        return width_of(self._shapes[-1])

    @property
    def text(self):
        """The lines of the steps."""
        return "\n".join([format_step(step) for step in self.steps])

    def without(self, number, index):
        """Return the plan whose step `number` lacks the test `index`."""
        if not 0 <= number < len(self.steps) or not 0 <= index < count_tests(self.steps[number]):
            raise NoTest("there is no such test")
        step = self.steps[number]
        if step[0] == "pair":
            tests = step[4]
            changed = (*step[:4], tests[:index] + tests[index + 1:])
        else:
            columns = self._shapes[step[1]][0]
            changed = ("keep", step[1], tuple(range(columns)))
        return Plan([*self.steps[:number], changed, *self.steps[number + 1:]], self._marks)

    def __call__(self, store):
        self._check_store(store)
        found = {}
        for number in used_steps(self.steps):
            step = self.steps[number]
            if step[0] == "table":
                rows = list(store[step[1]])
            else:
                rows = step_rows(step, [found[source] for source in sources(step)], self._marks)
            found[number] = sorted(set(rows))
        return found[len(self.steps) - 1]

    def _check_store(self, store):
        for name in self.names:
            if name not in store:
                raise NoTable(name)
            if store[name].columns != self._sizes[name]:
                raise WrongColumns(name)
            if len(store[name]) > MOST_ROWS:
                raise TooMany("a table has too many rows")


def check_same_marks(plans):
    """Raise Mismatch unless all the plans have the same marks."""
    if any([plan.marks != plans[0].marks for plan in plans]):
        raise Mismatch("the plans have different marks")


def united(first, *others):
    """Return the plan that gives the rows of all the plans."""
    check_same_marks([first, *others])
    steps = list(first.steps)
    for plan in others:
        last = len(steps) - 1
        steps = [*steps, *moved_steps(plan.steps, len(steps))]
        steps = [*steps, ("union", last, len(steps) - 1)]
    return Plan(steps, first.marks)


def paired(left, right, *tests, span="meet"):
    """Return the plan that pairs the rows of two plans."""
    check_same_marks([left, right])
    steps = [*left.steps, *moved_steps(right.steps, len(left.steps))]
    pair = ("pair", len(left.steps) - 1, len(steps) - 1, span, tests)
    return Plan([*steps, pair], left.marks)
