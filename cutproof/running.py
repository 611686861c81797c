"""The rows that steps give."""


def holds(left, operator, right):
    """Tell whether a comparison of two moments holds."""
    if operator == "<":
        return left < right
    if operator == "<=":
        return left <= right
    if operator == "=":
        return left == right
    if operator == ">=":
        return left >= right
    return left > right


def end_of(row, end):
    """Return the start or the stop of a row."""
    return row[1] if end == "start" else row[2]


def clip_rows(rows, low, high):
    """Return the rows restricted to the moments from `low` to `high`, without those with none."""
    clipped = [(data, max(start, low), min(stop, high)) for data, start, stop in rows]
    return [row for row in clipped if row[1] < row[2]]


def spanned(left, right, span):
    """Return the start and the stop that a span gives to a pair of rows."""
    if span == "meet":
        return max(left[1], right[1]), min(left[2], right[2])
    if span == "hull":
        return min(left[1], right[1]), max(left[2], right[2])
    if span == "gap":
        return left[2], right[1]
    kept = left if span == "left" else right
    return kept[1], kept[2]


def tests_hold(left, right, tests):
    """Tell whether two rows pass all the tests of a pair."""
    for end, operator, other in tests:
        if not holds(end_of(left, end), operator, end_of(right, other)):
            return False
    return True


def pair_rows(lefts, rights, span, tests):
    """Return the rows that the pairs of a left and a right row give."""
    found = []
    for left in lefts:
        for right in rights:
            if tests_hold(left, right, tests):
                start, stop = spanned(left, right, span)
                if start < stop:
                    found.append((left[0] + right[0], start, stop))
    return found


def step_rows(step, given, marks):
    """Return the rows of a step from those of each step that it refers to; some may occur twice."""
    kind = step[0]
    rows = given[0]
    if kind == "same":
        return [row for row in rows if row[0][step[2]] == row[0][step[3]]]
    if kind == "is":
        return [row for row in rows if row[0][step[2]] == step[3]]
    if kind == "when":
        return [row for row in rows if holds(end_of(row, step[2]), step[3], marks[step[4]])]
    if kind == "clip":
        return clip_rows(rows, marks[step[2]], marks[step[3]])
    if kind == "pair":
        return pair_rows(rows, given[1], step[3], step[4])
    if kind == "union":
        return [*rows, *given[1]]
    return [(tuple([data[column] for column in step[2]]), start, stop) for data, start, stop in rows]
