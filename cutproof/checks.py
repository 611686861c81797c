"""Checks of plans: which steps are valid, and how much a plan may hold."""

from cutproof.errors import BadStep, TooMany
from cutproof.orders import check_marks, check_moments
from cutproof.steps import CHOICES, KINDS, TEST, count_tests, plain_part, sources
from cutproof.words import is_word

MOST_STEPS = 12
MOST_NAMES = 3
MOST_COLUMNS = 6
MOST_TESTS = 4
MOST_PLACES = 6


def checked_shapes(steps, marks):
    """Return the shape of each step, its number of columns and its readings, or raise what is wrong."""
    if not steps:
        raise BadStep(0)
    if len(steps) > MOST_STEPS:
        raise TooMany("there are too many steps")
    check_marks(marks)
    shapes = []
    sizes = {}
    for number, step in enumerate(steps):
        if not is_valid(step, shapes, sizes, len(marks)):
            raise BadStep(number)
        if step[0] == "table":
            sizes[step[1]] = step[2]
        shape = shape_of(plain_part(step), shapes)
        check_bounds(step, shape, len(sizes), marks)
        shapes.append(shape)
    return shapes


def is_valid(step, shapes, sizes, marks):
    """Tell whether a step is valid behind steps with these shapes and tables of these sizes."""
    # The other checks read the parts and the steps referred to, so these two come first.
    if not step or step[0] not in KINDS or len(step) != 1 + len(KINDS[step[0]]):
        return False
    if not all([0 <= source < len(shapes) for source in sources(step)]):
        return False
    columns = shapes[step[1]][0] if sources(step) else 0
    valid = [part_is_valid(role, part, columns, marks) for role, part in zip(KINDS[step[0]], step[1:])]
    return all(valid) and parts_agree(step, shapes, sizes)


def part_is_valid(role, part, columns, marks):
    """Tell whether a part of a step is valid by itself; step numbers are checked already."""
    if role in CHOICES:
        return part in CHOICES[role]
    if role in ("name", "word"):
        return is_word(part)
    if role == "mark":
        return 0 <= part < marks
    if role == "column":
        return 0 <= part < columns
    if role == "columns":
        return len(part) > 0 and all([0 <= column < columns for column in part])
    if role == "tests":
        return all([is_test(test) for test in part])
    return True


def is_test(test):
    """Tell whether a test of a pair is a valid one."""
    return len(test) == len(TEST) and all([part in CHOICES[role] for role, part in zip(TEST, test)])


def parts_agree(step, shapes, sizes):
    """Tell whether the parts of a step, valid by themselves, fit each other and the steps before."""
    if step[0] == "table":
        return sizes.get(step[1], step[2]) == step[2]
    if step[0] == "clip":
        return step[2] < step[3]
    if step[0] == "union":
        return shapes[step[1]][0] == shapes[step[2]][0]
    return True


def shape_of(step, shapes):
    """Return the number of columns and the readings of a step behind steps with these shapes."""
    kind = step[0]
    if kind == "table":
        return step[2], ((step[1],),)
    columns, readings = shapes[step[1]]
    if kind == "keep":
        return len(step[2]), readings
    if kind == "union":
        return columns, readings + shapes[step[2]][1]
    if kind == "pair":
        more, others = shapes[step[2]]
        return columns + more, tuple([left + right for left in readings for right in others])
    return columns, readings


def width_of(shape):
    """Return the greatest number of places of a reading."""
    return max([len(places) for places in shape[1]])


def check_bounds(step, shape, names, marks):
    """Raise TooMany if a valid step goes beyond a bound."""
    columns, readings = shape
    if names > MOST_NAMES:
        raise TooMany("there are too many table names")
    if columns > MOST_COLUMNS:
        raise TooMany("a step has too many columns")
    if step[0] == "pair" and count_tests(step) > MOST_TESTS:
        raise TooMany("a pair has too many tests")
    if sum([len(places) for places in readings]) > MOST_PLACES:
        raise TooMany("a step has too many places")
    check_moments(width_of(shape), marks)
