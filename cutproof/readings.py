"""The readings of plans: which tables their rows come from, and what they tell of chosen rows."""

from cutproof.errors import Mismatch, NoReading
from cutproof.recipes import recipes_of
from cutproof.tables import plain_row


def readings(plan):
    """Return the table names of the places of each reading of the plan, in order."""
    return [recipe.places for recipe in recipes_of(plan)]


def reading_row(plan, number, rows):
    """Return the row that a reading tells if these rows are chosen for its places, or None."""
    recipes = recipes_of(plan)
    if not 0 <= number < len(recipes):
        raise NoReading("the plan has no reading with the number")
    recipe = recipes[number]
    if len(rows) != len(recipe.places):
        raise Mismatch("a reading takes one row for each of its places")
    chosen = [plain_row(row) for row in rows]
    data = recipe.told([row[0] for row in chosen])
    span = recipe.timing.span([*plan.marks, *[end for row in chosen for end in row[1:]]])
    if data is None or span is None:
        return None
    return (data, *span)
