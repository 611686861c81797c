"""What the steps of plans consist of."""

# For each kind of step, the roles of its parts behind the kind.
KINDS = {
    "table": ("name", "size"),
    "same": ("step", "column", "column"),
    "is": ("step", "column", "word"),
    "when": ("step", "end", "operator", "mark"),
    "clip": ("step", "mark", "mark"),
    "pair": ("step", "step", "span", "tests"),
    "union": ("step", "step"),
    "keep": ("step", "columns"),
}
TEST = ("end", "operator", "end")

# For each role with few values, these values.
CHOICES = {
    "size": (1, 2),
    "end": ("start", "stop"),
    "operator": ("<", "<=", "=", ">=", ">"),
    "span": ("meet", "hull", "left", "right", "gap"),
}


def plain_part(part):
    """Return a step, or a part of one, as plain values, whatever classes were derived from these."""
    if isinstance(part, tuple):
        return tuple([plain_part(inner) for inner in part])
    return str(part) if isinstance(part, str) else int(part)


def sources(step):
    """Return the numbers of the steps that a step refers to, in order."""
    return [part for role, part in zip(KINDS[step[0]], step[1:]) if role == "step"]


def moved_steps(steps, by):
    """Return the steps with all step numbers in them moved."""
    return [moved_step(step, by) for step in steps]


def moved_step(step, by):
    """Return the step with all step numbers in it moved."""
    roles = KINDS[step[0]]
    parts = [part + by if role == "step" else part for role, part in zip(roles, step[1:])]
    return (step[0], *parts)


def used_steps(steps):
    """Return the numbers of the last step and of all that it uses, in ascending order."""
    used = [len(steps) - 1]
    for number in reversed(range(len(steps))):
        if number in used:
            used = used + sources(steps[number])
    return sorted(set(used))


def table_sizes(steps):
    """Return the number of columns of each table that the steps name."""
    return {step[1]: step[2] for step in steps if step[0] == "table"}


def count_tests(step):
    """Return how many tests a step has."""
    if step[0] == "pair":
        return len(step[4])
    return 1 if step[0] == "when" else 0
