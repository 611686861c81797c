"""What the readings of plans make of the rows that are chosen for their places."""

from cutproof.running import end_of, holds
from cutproof.steps import sources


def trees_of(steps, number):
    """Return a tree for each reading of a step: the step, and the trees of the steps that it refers to."""
    step = steps[number]
    parts = [trees_of(steps, source) for source in sources(step)]
    if step[0] == "table":
        return [(step,)]
    if step[0] == "union":
        return parts[0] + parts[1]
    if step[0] == "pair":
        return [(step, left, right) for left in parts[0] for right in parts[1]]
    return [(step, part) for part in parts[0]]


def places_of(tree):
    """Return the table names of the places of a reading."""
    step = tree[0]
    if step[0] == "table":
        return (step[1],)
    return tuple([name for part in tree[1:] for name in places_of(part)])


class Timing:
    """How the start and the stop of a row come from given moments.

    Each moment has a slot, a number: first those that are given, then one for each rule that reckons a moment, the
    `max` or the `min` of two. Every other rule is a comparison of two moments, which must hold.
    """

    def __init__(self, rules, start, stop):
        self.rules = rules
        self.start = start
        self.stop = stop

    def span(self, moments):
        """Return the start and the stop of the row, or None if a comparison does not hold."""
        known = list(moments)
        for rule, one, other in self.rules:
            left, right = known[one], known[other]
            if rule == "max":
                known.append(left if left > right else right)
            elif rule == "min":
                known.append(left if left < right else right)
            elif not holds(left, rule, right):
                return None
        return known[self.start], known[self.stop]

    def moved(self, slots, many):
        """Return the timing that finds the moments given to this one in the slots of `many` given moments."""
        reckoned = [rule for rule in self.rules if rule[0] in ("max", "min")]
        places = [*slots, *list(range(many, many + len(reckoned)))]
        rules = [(rule, places[one], places[other]) for rule, one, other in self.rules]
        return Timing(rules, places[self.start], places[self.stop])


class Recipe:
    """One reading of a plan: its places, what it demands of the rows chosen for them, and the row that it tells.

    A cell is a place and a column of the row chosen for it. `equal` are the pairs of cells that must hold the same
    word, `fixed` the cells that must hold a certain one, and `cells` those of which the data consists. The moments
    given to the timing are the marks, and then the start and the stop of the row of each place.
    """

    def __init__(self, tree, marks):
        self.places = places_of(tree)
        self.equal = []
        self.fixed = []
        self._marks = marks
        self._slots = marks + 2 * len(self.places)
        self._rules = []
        cells, start, stop = self._follow(tree, 0)
        self.cells = cells
        self.timing = Timing(self._rules, start, stop)

    def told(self, chosen):
        """Return the data that is told if this data is chosen for the places, or None if its words do not fit."""
        for (place, column), word in self.fixed:
            if chosen[place][column] != word:
                return None
        for (place, column), (other, its_column) in self.equal:
            if chosen[place][column] != chosen[other][its_column]:
                return None
        return tuple([chosen[place][column] for place, column in self.cells])

    def _follow(self, tree, place):
        """Note what a tree demands, whose first place has this number; return its cells and slots of start and stop."""
        step = tree[0]
        if step[0] == "table":
            start = self._marks + 2 * place
            return [(place, column) for column in range(step[2])], start, start + 1
        given = self._follow(tree[1], place)
        if step[0] == "pair":
            return self._pair(step, given, self._follow(tree[2], place + len(places_of(tree[1]))))
        cells, start, stop = given
        if step[0] == "same":
            self.equal.append((cells[step[2]], cells[step[3]]))
        elif step[0] == "is":
            self.fixed.append((cells[step[2]], step[3]))
        elif step[0] == "when":
            # The marks come first, so the slot of a mark is its number.
            self._rules.append((step[3], end_of(given, step[2]), step[4]))
        elif step[0] == "clip":
            start, stop = self._reckon("max", start, step[2]), self._reckon("min", stop, step[3])
            self._rules.append(("<", start, stop))
        elif step[0] == "keep":
            cells = [cells[column] for column in step[2]]
        return cells, start, stop

    def _pair(self, step, left, right):
        """Note what a pair demands of its two sides; return its cells and the slots of its start and stop."""
        for end, operator, other in step[4]:
            self._rules.append((operator, end_of(left, end), end_of(right, other)))
        start, stop = self._spanned(left, right, step[3])
        self._rules.append(("<", start, stop))
        return left[0] + right[0], start, stop

    def _spanned(self, left, right, span):
        """Return the slots of the start and the stop that a span gives to two sides."""
        if span == "meet":
            return self._reckon("max", left[1], right[1]), self._reckon("min", left[2], right[2])
        if span == "hull":
            return self._reckon("min", left[1], right[1]), self._reckon("max", left[2], right[2])
        if span == "gap":
            return left[2], right[1]
        kept = left if span == "left" else right
        return kept[1], kept[2]

    def _reckon(self, rule, one, other):
        """Add a rule that reckons a moment, and return its slot."""
        self._rules.append((rule, one, other))
        self._slots = self._slots + 1
        return self._slots - 1


def recipes_of(plan):
    """Return the recipe of each reading of a plan, in order."""
    trees = trees_of(plan.steps, len(plan.steps) - 1)
    return [Recipe(tree, len(plan.marks)) for tree in trees]
