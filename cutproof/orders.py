"""Orders of moments: tight forms, and patterns of pairs."""

from cutproof.errors import BadMarks, TooMany

# A pair has two moments, so this bounds twice the number of pairs plus the number of marks.
MOST_MOMENTS = 6


def check_marks(marks):
    """Raise BadMarks unless the marks are strictly ascending."""
    if any([mark >= following for mark, following in zip(marks, marks[1:])]):
        raise BadMarks("the marks are not strictly ascending")


def check_moments(count, marks):
    """Raise TooMany if so many pairs and the marks together are more than is tried out."""
    if 2 * count + len(marks) > MOST_MOMENTS:
        raise TooMany("there are too many pairs and marks")


def anchor(number, marks):
    """Return the mark from which a number is counted; there is at least one mark."""
    return max([mark for mark in marks if mark <= number], default=marks[0])


class Order:
    """What can be said of moments by their order alone."""

    @staticmethod
    def tight(numbers, marks=()):
        """Return the tight form of the numbers relative to the marks."""
        check_marks(marks)
        levels = sorted(set([*numbers, *marks]))
        ranks = {level: rank for rank, level in enumerate(levels)}
        if not marks:
            return tuple([ranks[number] for number in numbers])
        pairs = [(ranks[number], anchor(number, marks)) for number in numbers]
        return tuple([base + rank - ranks[base] for rank, base in pairs])

    @staticmethod
    def same(one, two, marks=()):
        """Tell whether two lists of numbers have the same tight form relative to the marks."""
        return Order.tight(one, marks) == Order.tight(two, marks)


def tight_moments(many, marks):
    """Return the moments that can occur in the tight form of so many numbers, in ascending order."""
    if not marks:
        return list(range(many))
    below = list(range(marks[0] - many, marks[0]))
    ends = [*marks[1:], marks[-1] + many + 1]
    return below + [
        moment for mark, end in zip(marks, ends) for moment in range(mark, min(mark + many + 1, end))
    ]


def between(number, marks):
    """Return the moments that numbers must fill for the number to be its own tight form."""
    base = anchor(number, marks) if marks else -1
    return list(range(min(base, number) + 1, max(base, number)))


def levels_of(many, marks):
    """Return the moments of tight forms, each with its bit and the bits of the moments that it demands."""
    moments = tight_moments(many, marks)
    bits = {moment: 1 << place for place, moment in enumerate(moments)}
    return [(moment, bits[moment], sum([bits[other] for other in between(moment, marks)])) for moment in moments]


def count_bits(bits):
    """Return how many bits are set."""
    many = 0
    while bits:
        bits = bits & (bits - 1)
        many = many + 1
    return many


def ways_on(held, demanded, levels, left):
    """Return the moments that can follow where these are held and demanded, with what is so behind each.

    After each of them at most `left` of the moments that are demanded are still lacking.
    """
    found = []
    for moment, bit, more in levels:
        held_then, demanded_then = held | bit, demanded | more
        if count_bits(demanded_then & ~held_then) <= left:
            found.append((moment, held_then, demanded_then))
    return found


def tight_tuples(many, marks, above, below):
    """Return the tuples of `many` numbers that are their own tight form, in ascending order.

    `above` and `below` name, for some places of the tuple, the earlier place whose number is less or greater.
    """
    levels = levels_of(many, marks)
    begun = [((), 0, 0)]
    for place in range(many):
        # What is demanded follows from what is held, so tuples that hold the same go on in the same ways.
        ways = {}
        longer = []
        # A copy is walked, since in the next round `begun` is the very list that `longer` was.
        for numbers, held, demanded in list(begun):
            if held not in ways:
                ways[held] = ways_on(held, demanded, levels, many - place - 1)
            low = numbers[above[place]] if place in above else levels[0][0] - 1
            high = numbers[below[place]] if place in below else levels[-1][0] + 1
            longer.extend([((*numbers, way[0]), way[1], way[2]) for way in ways[held] if low < way[0] < high])
        begun = longer
    return [state[0] for state in begun]


def pair_numbers(count, marks):
    """Return the numbers of each tuple of `count` pairs in tight form, in ascending order."""
    if count < 0:
        return []
    return tight_tuples(2 * count, marks, {stop: stop - 1 for stop in range(1, 2 * count, 2)}, {})


def cut_numbers(count, marks):
    """Return the moment of the cut and the numbers of the pairs of each cut pattern, in ascending order."""
    # Without a first pair there is nothing to cut.
    if count < 1:
        return []
    above = {stop: stop - 1 for stop in range(4, 2 * count + 1, 2)}
    return tight_tuples(2 * count + 1, marks, {2: 0, **above}, {1: 0})


def patterns(count, marks=()):
    """Yield each tuple of `count` pairs that is its own tight form, in ascending order."""
    check_marks(marks)
    check_moments(count, marks)
    for numbers in pair_numbers(count, marks):
        yield tuple(zip(numbers[::2], numbers[1::2]))


def cut_patterns(count, marks=()):
    """Yield each tuple `(at, pairs)` in tight form that cuts its first pair, in ascending order."""
    check_marks(marks)
    check_moments(count, marks)
    for numbers in cut_numbers(count, marks):
        yield numbers[0], tuple(zip(numbers[1::2], numbers[2::2]))
