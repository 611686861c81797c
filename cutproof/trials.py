"""Rows on which plans are tried out: one for each group of places of a reading, with words but without moments."""


def one_of_each(lists):
    """Return all tuples with one member of each of the lists, in order."""
    found = [()]
    for options in lists:
        found = [(*some, option) for some in found for option in options]
    return found


def groupings(places):
    """Return each way to divide places into groups of the same table, as tuples of the places' group numbers."""
    found = [()]
    for name in places:
        found = [(*groups, group) for groups in found for group in groups_for(name, groups, places)]
    return found


def groups_for(name, groups, places):
    """Return the groups that a further place, one of this table, can join if the places before it are in `groups`."""
    fitting = sorted({group for group, place in zip(groups, places) if place == name})
    return [*fitting, max(groups, default=-1) + 1]


def words_of_plan(plan):
    """Return the words that the steps of a plan name."""
    return [step[3] for step in plan.steps if step[0] == "is"]


def new_words(many, taken):
    """Return so many different words that are not taken."""
    words = [f"w{number}" for number in range(1, many + len(taken) + 1)]
    return [word for word in words if word not in taken][:many]


def replaced(words, one, other, taken):
    """Return the words of cells with two of them made equal, or None if these are two words that are taken."""
    if one == other:
        return words
    if one in taken:
        one, other = other, one
    if one in taken:
        return None
    return {cell: other if word == one else word for cell, word in words.items()}


def words_demanded(recipe, groups, words, taken):
    """Return the words of cells, made equal where the reading demands it, or None if that cannot be."""
    for (place, column), word in recipe.fixed:
        words = replaced(words, words[groups[place], column], word, taken)
        if words is None:
            return None
    for (place, column), (other, its_column) in recipe.equal:
        words = replaced(words, words[groups[place], column], words[groups[other], its_column], taken)
        if words is None:
            return None
    return words


class Trial:
    """Rows to try out: the table name and the data of each row.

    `groups` has the number of the row that is chosen for each place of the reading, and `answer` is the data that the
    reading then tells. `twins` are the pairs of rows of one table with equal data.
    """

    def __init__(self, recipe, groups, names, rows):
        self.recipe = recipe
        self.groups = groups
        self.names = names
        self.rows = rows
        self.answer = recipe.told(self.chosen(groups))
        self.twins = [
            (row, other) for row in range(len(rows)) for other in range(row)
            if names[row] == names[other] and rows[row] == rows[other]
        ]

    def chosen(self, groups):
        """Return the data of the rows with these numbers."""
        return [self.rows[group] for group in groups]

    def led_by(self, row):
        """Return the same trial with this row as its first one."""
        order = [row, *[other for other in range(len(self.rows)) if other != row]]
        groups = [order.index(group) for group in self.groups]
        return Trial(self.recipe, groups, [self.names[old] for old in order], self.chosen(order))

    def choices(self, places):
        """Return each way to choose rows for places, as tuples of row numbers."""
        return one_of_each([[row for row, name in enumerate(self.names) if name == place] for place in places])

    def allows(self, spans, merged):
        """Tell whether rows with these spans differ from each other, and lie apart in the tables that are merged."""
        for row, other in self.twins:
            apart = spans[row][1] < spans[other][0] or spans[other][1] < spans[row][0]
            if not apart and (self.names[row] in merged or spans[row] == spans[other]):
                return False
        return True


def trials_of(recipes, many, sizes, taken):
    """Return the trials with so many rows for readings; new words in them are none of those that are taken."""
    found = []
    for recipe in recipes:
        for groups in groupings(recipe.places):
            if max(groups) + 1 == many:
                found.extend(trials_with(recipe, groups, sizes, taken))
    return found


def trials_with(recipe, groups, sizes, taken):
    """Return a list of the trial for a reading and groups of its places, or of none if its words cannot fit."""
    names = [recipe.places[groups.index(group)] for group in range(max(groups) + 1)]
    cells = [(group, column) for group, name in enumerate(names) for column in range(sizes[name])]
    words = words_demanded(recipe, groups, dict(zip(cells, new_words(len(cells), taken))), taken)
    if words is None:
        return []
    rows = [tuple([words[group, column] for column in range(sizes[name])]) for group, name in enumerate(names)]
    return [Trial(recipe, groups, names, rows)]
