"""Orders of moments: tight forms, and patterns of pairs."""

from cutproof.errors import BadMarks, TooMany

# A pair has two moments, so this bounds twice the number of pairs plus the number of marks.
MOST_MOMENTS = 6


def check_marks(marks):
    """Raise BadMarks unless the marks are strictly ascending."""
    if any([mark >= following for mark, following in zip(marks, marks[1:])]):
        raise BadMarks("the marks are not strictly ascending")


def check_moments(count, marks):
    """Raise TooMany if so many pairs and the marks together are more than is tried out."""
    if 2 * count + len(marks) > MOST_MOMENTS:
        raise TooMany("there are too many pairs and marks")


def anchor(number, marks):
    """Return the mark from which a number is counted; there is at least one mark."""
    return max([mark for mark in marks if mark <= number], default=marks[0])


class Order:
    """What can be said of moments by their order alone."""

    @staticmethod
    def tight(numbers, marks=()):
        """Return the tight form of the numbers relative to the marks."""
        check_marks(marks)
        levels = sorted(set([*numbers, *marks]))
        ranks = {level: rank for rank, level in enumerate(levels)}
        if not marks:
            return tuple([ranks[number] for number in numbers])
        pairs = [(ranks[number], anchor(number, marks)) for number in numbers]
        return tuple([base + rank - ranks[base] for rank, base in pairs])

    @staticmethod
    def same(one, two, marks=()):
        """Tell whether two lists of numbers have the same tight form relative to the marks."""
        return Order.tight(one, marks) == Order.tight(two, marks)


def tight_moments(many, marks):
    """Return the moments that can occur in the tight form of so many numbers, in ascending order."""
    if not marks:
        return list(range(many))
    below = list(range(marks[0] - many, marks[0]))
    ends = [*marks[1:], marks[-1] + many + 1]
    return below + [
        moment for mark, end in zip(marks, ends) for moment in range(mark, min(mark + many + 1, end))
    ]


def between(number, marks):
    """Return the moments that numbers must fill for the number to be its own tight form."""
    base = anchor(number, marks) if marks else -1
    return list(range(min(base, number) + 1, max(base, number)))


def lacking(parts, marks):
    """Return how many more different numbers the parts need at least to be their own tight form."""
    numbers = [number for part in parts for number in part]
    return len({moment for number in numbers for moment in between(number, marks)} - set(numbers))


def extended(begun, spans, many, marks):
    """Return the tuples in tight form that begin like one of those begun and go on with `many` spans."""
    found = [parts for parts in begun if lacking(parts, marks) <= 2 * many]
    for left in reversed(range(many)):
        longer = [(*parts, span) for parts in found for span in spans]
        found = [parts for parts in longer if lacking(parts, marks) <= 2 * left]
    return found


def spans_of(moments):
    """Return all pairs of a lesser and a greater one of the moments, which ascend, in ascending order."""
    return [(start, stop) for start in moments for stop in moments if start < stop]


def patterns(count, marks=()):
    """Yield each tuple of `count` pairs that is its own tight form, in ascending order."""
    check_marks(marks)
    check_moments(count, marks)
    spans = spans_of(tight_moments(2 * count, marks))
    for pairs in extended([()], spans, count, marks):
        yield pairs


def cut_patterns(count, marks=()):
    """Yield each tuple `(at, pairs)` in tight form that cuts its first pair, in ascending order."""
    check_marks(marks)
    check_moments(count, marks)
    moments = tight_moments(2 * count + 1, marks)
    spans = spans_of(moments)
    begun = [((at,), span) for at in moments for span in spans if span[0] < at < span[1]]
    for cut, *pairs in extended(begun, spans, count - 1, marks):
        yield cut[0], tuple(pairs)
