"""What several tests share: places on the time line, and slow answers to compare with."""

from cutproof.errors import CutError

# Moments near 0, below 0, and of 30 digits on both sides.
BASES = (0, -2, -50, 10**29, 10**30 - 20, -(10**30) + 20)

# Where a test picks at random, it picks the same each time.
SEED = 20

# Marks that are not strictly ascending: one twice or two exchanged, at each place.
BAD_MARKS = (
    (0, 0), (1, 0), (0, 0, 4), (0, 4, 4), (4, 0, 9), (0, 9, 4), (0, 4, 0), (9, 4, 0),
    (0, 0, 4, 9), (0, 4, 4, 9), (0, 4, 9, 9), (4, 0, 9, 12), (0, 9, 4, 12), (0, 4, 12, 9),
)


def moved(rows, base):
    """The rows, all moved by the same number of moments."""
    return [(data, start + base, stop + base) for data, start, stop in rows]


def spans(last):
    """All pairs (start, stop) with 0 <= start < stop <= last."""
    return [(start, stop) for start in range(last) for stop in range(start + 1, last + 1)]


def moments_of(rows):
    """All moments at which rows that lie close together can say something, and one on each side."""
    ends = [end for row in rows for end in row[1:]]
    return range(min(ends) - 1, max(ends) + 2) if ends else range(-1, 2)


def slow_snapshot(rows, moment):
    said = []
    for data, start, stop in rows:
        if start <= moment < stop and data not in said:
            said.append(data)
    return sorted(said)


def slow_merged(rows):
    """Merged rows, one moment at a time."""
    merged = []
    for data in {row[0] for row in rows}:
        start = None
        for moment in moments_of(rows):
            if data in slow_snapshot(rows, moment):
                start = moment if start is None else start
            elif start is not None:
                merged.append((data, start, moment))
                start = None
    return sorted(merged)


def slow_change(before, after):
    """The first change, one moment at a time."""
    for moment in moments_of([*before, *after]):
        former, latter = slow_snapshot(before, moment), slow_snapshot(after, moment)
        if former != latter:
            data = min(set(former) ^ set(latter))
            return moment, data, data in former
    return None


def is_plain(value):
    """Whether a value and all that it contains are of Python's own kinds, not of derived ones."""
    if type(value) in (list, tuple):
        return all(is_plain(item) for item in value)
    return value is None or type(value) in (int, str, bool)


def sign(one, other):
    return (one > other) - (one < other)


def signs(numbers, marks):
    """How each number compares to each other one and to each mark."""
    return [[sign(number, other) for other in [*numbers, *marks]] for number in numbers]


def raises_only(case, error, call):
    """Check that a call raises the error itself, which is a CutError and so a ValueError, and return it."""
    with case.assertRaises(ValueError) as caught:
        call()
    case.assertIs(type(caught.exception), error)
    case.assertIsInstance(caught.exception, CutError)
    return caught.exception
