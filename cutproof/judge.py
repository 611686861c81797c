"""What holds for plans on every store: leaks, merge sets, differences and idle tests."""

from cutproof.errors import Mismatch, NoTable
from cutproof.orders import check_moments
from cutproof.search import CutSearch, first_difference, spans_behind
from cutproof.steps import count_tests, table_sizes, used_steps
from cutproof.tables import Table, first_change, merge_rows
from cutproof.trials import words_of_plan
from cutproof.work import shown


class Finding:
    """A store on which something shows, with the first moment at which it shows and the data in which it does."""

    def __init__(self, store, moment, data):
        self.store = store
        self.moment = moment
        self.data = data


class Leak(Finding):
    """A store on which the cut of a row changes what the answer of a plan says."""

    def __init__(self, store, change, name, row, at):
        moment, data, lost = change
        super().__init__(store, moment, data)
        self.name = name
        self.row = row
        self.at = at
        self.lost = lost


class Difference(Finding):
    """A store on which the answers of two plans do not say the same."""

    def __init__(self, store, change):
        moment, data, in_first = change
        super().__init__(store, moment, data)
        self.in_first = in_first


class Judge:
    """What finds the leaks of one plan, for any merge sets."""

    def __init__(self, plan):
        self.plan = plan
        self.sizes = table_sizes(plan.steps)
        self.search = CutSearch(plan, self.sizes, words_of_plan(plan))

    def first_leak(self, merged):
        """Return a Leak with the fewest rows if the tables of the merge set are merged, or None."""
        found = self.search.first_shown(merged)
        if found is None:
            return None
        trial, moments = found
        ahead = self.search.ahead
        rows = rows_of_trial(trial, moments, ahead)
        store = store_of_rows(self.sizes, trial.names, rows)
        name, row, at = trial.names[0], rows[0], moments[ahead - 1]
        return Leak(store, shown(self.plan, store, name, row, at), name, row, at)


def rows_of_trial(trial, moments, ahead):
    """Return the rows of a trial with their starts and stops, which stand behind the first moments."""
    return [(data, start, stop) for data, (start, stop) in zip(trial.rows, spans_behind(ahead, moments))]


def store_of_rows(sizes, names, rows):
    """Return a store with tables of these sizes that hold the rows; `names` has the table of each row."""
    return {
        name: Table(sizes[name], [row for row, its_name in zip(rows, names) if its_name == name])
        for name in sorted(sizes)
    }


def check_names(plan, names):
    """Raise NoTable for the first name that no table of the plan has."""
    for name in names:
        if name not in plan.names:
            raise NoTable(str(name))


def leak(plan, *, merged=()):
    """Return a smallest Leak of the plan where the tables of the merge set are merged, or None."""
    check_names(plan, merged)
    return Judge(plan).first_leak(merged)


def merge_sets(names):
    """Return all sets of some ascending names as tuples, those with fewer names first, else in ascending order."""
    found = [()]
    for name in names:
        found = found + [(*some, name) for some in found]
    return [some for many in range(len(names) + 1) for some in sorted(found) if len(some) == many]


def is_within(names, others):
    """Tell whether all the names are among the others."""
    return all([name in others for name in names])


def least_merge_sets(plan):
    """Return the merge sets that are enough for the plan to be stable while none of their proper subsets is."""
    judge = Judge(plan)
    found = []
    for names in merge_sets(plan.names):
        if not any([is_within(least, names) for least in found]) and judge.first_leak(names) is None:
            found.append(names)
    return found


def why_needed(plan, names):
    """Return each name of the merge set, with a Leak for the merge set without this name or with None."""
    check_names(plan, names)
    judge = Judge(plan)
    needed = [name for name in plan.names if name in names]
    return [(name, judge.first_leak([other for other in needed if other != name])) for name in needed]


def stable_answer(plan, store):
    """Return the merged answer on the store, with the tables of the first least merge set merged."""
    names = least_merge_sets(plan)[0]
    return merge_rows(plan({name: table.merged() if name in names else table for name, table in store.items()}))


def check_comparable(one, two):
    """Raise Mismatch if the answers of two plans, or a table, have different numbers of columns in them."""
    if one.columns != two.columns:
        raise Mismatch("the answers have different numbers of columns")
    sizes = table_sizes(one.steps)
    if any([sizes.get(name, size) != size for name, size in table_sizes(two.steps).items()]):
        raise Mismatch("a table has different numbers of columns")


def difference(one, two):
    """Return a smallest store on which the answers of two plans do not say the same, or None."""
    check_comparable(one, two)
    marks = sorted(set([*one.marks, *two.marks]))
    check_moments(max(one.width, two.width), marks)
    sizes = table_sizes([*one.steps, *two.steps])
    found = first_difference(one, two, marks, sizes, [*words_of_plan(one), *words_of_plan(two)])
    if found is None:
        return None
    trial, moments = found
    store = store_of_rows(sizes, trial.names, rows_of_trial(trial, moments, len(marks)))
    return Difference(store, first_change(one(store), two(store)))


def idle_tests(plan):
    """Return the step and the number of each test without which the answers of the plan say the same."""
    used = used_steps(plan.steps)
    tests = [(number, index) for number, step in enumerate(plan.steps) for index in range(count_tests(step))]
    return [test for test in tests if test[0] not in used or difference(plan, plan.without(*test)) is None]
