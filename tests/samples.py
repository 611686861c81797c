"""What several tests share: places on the time line, and slow answers to compare with."""

# Moments near 0, below 0, and of 30 digits on both sides.
BASES = (0, -2, -50, 10**29, 10**30 - 20, -(10**30) + 20)


def moved(rows, base):
    """The rows, all moved by the same number of moments."""
    return [(data, start + base, stop + base) for data, start, stop in rows]


def spans(last):
    """All pairs (start, stop) with 0 <= start < stop <= last."""
    return [(start, stop) for start in range(last) for stop in range(start + 1, last + 1)]


def moments_of(rows):
    """All moments at which rows that lie close together can say something, and one on each side."""
    ends = [end for row in rows for end in row[1:]]
    return range(min(ends) - 1, max(ends) + 2) if ends else range(-1, 2)


def slow_snapshot(rows, moment):
    said = []
    for data, start, stop in rows:
        if start <= moment < stop and data not in said:
            said.append(data)
    return sorted(said)


def slow_merged(rows):
    """Merged rows, one moment at a time."""
    merged = []
    for data in {row[0] for row in rows}:
        start = None
        for moment in moments_of(rows):
            if data in slow_snapshot(rows, moment):
                start = moment if start is None else start
            elif start is not None:
                merged.append((data, start, moment))
                start = None
    return sorted(merged)


def slow_change(before, after):
    """The first change, one moment at a time."""
    for moment in moments_of([*before, *after]):
        former, latter = slow_snapshot(before, moment), slow_snapshot(after, moment)
        if former != latter:
            data = min(set(former) ^ set(latter))
            return moment, data, data in former
    return None


def is_plain(value):
    """Whether a value and all that it contains are of Python's own kinds, not of derived ones."""
    if type(value) in (list, tuple):
        return all(is_plain(item) for item in value)
    return value is None or type(value) in (int, str, bool)
