"""What is asked of a plan and one store: the answer over time, and what a cut changes in it."""

from cutproof.errors import NoTable
from cutproof.tables import ends_of_merged, first_change, rows_at


def shown(plan, store, name, row, at):
    """Return the first change of the answer that comes from cutting one row, or None."""
    before = plan(store)
    if name not in store:
        raise NoTable(str(name))
    with store[name].cut(row, at):
        after = plan(store)
    return first_change(before, after)


def timeline(plan, store):
    """Yield the longest intervals in which the answer says the same and not nothing, each with what it says."""
    said = {}
    start = None
    # Each end of a merged row is a moment at which its data comes or goes, so the snapshot changes at each end.
    for end, data in sorted(ends_of_merged(plan(store))):
        if said and start < end:
            yield start, end, sorted(said)
        start = end
        if data in said:
            del said[data]
        else:
            said[data] = True


def answer_at(plan, store, moment):
    """Return the data that the answer says at the moment, in ascending order."""
    return rows_at(plan(store), moment)
