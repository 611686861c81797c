"""The search for moments at which a trial shows a cut, or a difference between two plans."""

from cutproof.orders import cut_numbers, pair_numbers
from cutproof.recipes import recipes_of
from cutproof.trials import one_of_each, trials_of

# The moments of a store that is tried are a list: first the marks, then for a cut its moment, then the start and the
# stop of each row. The number of moments ahead of the rows is called `ahead`.


def spans_behind(ahead, moments):
    """Return the starts and stops that stand behind the first moments."""
    return list(zip(moments[ahead::2], moments[ahead + 1::2]))


def covers(spans, wanted):
    """Tell whether each moment of a wanted span lies in one of the spans."""
    start, stop = wanted
    for low, high in sorted(spans):
        if low <= start < high:
            start = high
    return start >= stop


def cover_all(spans, wanted):
    """Tell whether each moment of each of the wanted spans lies in one of the spans."""
    return all([covers(spans, span) for span in wanted])


def spans_told(timings, moments):
    """Return the start and the stop of each row that the timings tell."""
    spans = [timing.span(moments) for timing in timings]
    return [span for span in spans if span is not None]


class Side:
    """The readings of a plan, for moments that begin with some marks, those of the plan among them."""

    def __init__(self, plan, marks):
        self.recipes = recipes_of(plan)
        self.mark_slots = [marks.index(mark) for mark in plan.marks]

    def timings(self, recipe, groups, pieces, many):
        """Return a timing of the reading for each way to take one piece of the row that is chosen for each place.

        `pieces` has the slots of the starts and stops of the pieces of each row; there are `many` moments.
        """
        found = []
        for taken in one_of_each([pieces[group] for group in groups]):
            slots = [*self.mark_slots, *[slot for piece in taken for slot in piece]]
            found.append(recipe.timing.moved(slots, many))
        return found

    def all_timings(self, trial, pieces, many):
        """Return the timings of all readings and choices of rows that tell the answer of the trial."""
        found = []
        for recipe in self.recipes:
            for groups in trial.choices(recipe.places):
                if recipe.told(trial.chosen(groups)) == trial.answer:
                    found.extend(self.timings(recipe, groups, pieces, many))
        return found


class CutTrial:
    """A trial whose first row is cut, with the timings that tell its answer before and after the cut."""

    def __init__(self, side, trial, ahead):
        many = ahead + 2 * len(trial.rows)
        whole = [[(slot, slot + 1)] for slot in range(ahead, many, 2)]
        # The moment of the cut stands directly ahead of the start and the stop of the row that is cut.
        cut = [[(ahead, ahead - 1), (ahead - 1, ahead + 1)], *whole[1:]]
        self.own_before = side.timings(trial.recipe, trial.groups, whole, many)
        self.own_after = side.timings(trial.recipe, trial.groups, cut, many)
        self.all_before = side.all_timings(trial, whole, many)
        self.all_after = side.all_timings(trial, cut, many)

    def shows(self, moments):
        """Tell whether what the reading tells of the rows of the trial is lost or new after the cut."""
        before, after = spans_told(self.own_before, moments), spans_told(self.own_after, moments)
        # This mostly settles it, so that the other ways to tell the answer need not be looked at.
        if cover_all(before, after) and cover_all(after, before):
            return False
        lost = not cover_all(spans_told(self.all_after, moments), before)
        return lost or not cover_all(spans_told(self.all_before, moments), after)


class CutSearch:
    """The search for cuts that show on the stores of a plan."""

    def __init__(self, plan, sizes, taken):
        self.side = Side(plan, plan.marks)
        self.ahead = len(plan.marks) + 1
        self.trials = []
        self.tried = {}
        for many in range(1, plan.width + 1):
            self.tried[many] = [[*plan.marks, *numbers] for numbers in cut_numbers(many, plan.marks)]
            for trial in trials_of(self.side.recipes, many, sizes, taken):
                self.trials.extend([trial.led_by(row) for row in range(many)])

    def first_shown(self, merged):
        """Return a trial with the fewest rows, and moments at which a cut of its first row shows, or None.

        The tables of the merge set are merged, and no row of them is cut.
        """
        for trial in self.trials:
            if trial.names[0] not in merged:
                cut = CutTrial(self.side, trial, self.ahead)
                for moments in self.tried[len(trial.rows)]:
                    if trial.allows(spans_behind(self.ahead, moments), merged) and cut.shows(moments):
                        return trial, moments
        return None


def first_difference(one, two, marks, sizes, taken):
    """Return a trial with the fewest rows, and moments at which the answers of two plans differ on it, or None."""
    sides = [Side(one, marks), Side(two, marks)]
    for many in range(1, max(one.width, two.width) + 1):
        tried = [[*marks, *numbers] for numbers in pair_numbers(many, marks)]
        for side, other in (sides, sides[::-1]):
            for trial in trials_of(side.recipes, many, sizes, taken):
                moments = moments_that_differ(side, other, trial, tried, len(marks))
                if moments is not None:
                    return trial, moments
    return None


def moments_that_differ(side, other, trial, tried, ahead):
    """Return the first of the tried moments at which only this side tells what its reading tells, or None."""
    many = ahead + 2 * len(trial.rows)
    pieces = [[(slot, slot + 1)] for slot in range(ahead, many, 2)]
    own = side.timings(trial.recipe, trial.groups, pieces, many)
    others = other.all_timings(trial, pieces, many)
    for moments in tried:
        if trial.allows(spans_behind(ahead, moments), ()):
            told = spans_told(own, moments)
            if told and not cover_all(spans_told(others, moments), told):
                return moments
    return None
