"""Steps as lines of text."""

from cutproof.errors import BadLine
from cutproof.steps import KINDS, TEST

DIGITS = "0123456789"
NUMBERS = ("step", "column", "mark", "size")


def words_of(part):
    """Return a part, and one after the other the parts in it, as a list of strings."""
    if isinstance(part, tuple):
        return [word for inner in part for word in words_of(inner)]
    return [str(part)]


def format_step(step):
    """Return the line of a step, about which nothing is checked."""
    return " ".join(words_of(step))


def is_number(token):
    """Tell whether a token stands for a number."""
    if token == "0":
        return True
    return 1 <= len(token) <= 2 and token[0] != "0" and all([sign in DIGITS for sign in token])


def token_roles(kind, many):
    """Return the roles of so many tokens behind the kind, or None if there cannot be so many."""
    roles = list(KINDS[kind])
    rest = many - len(roles) + 1
    if roles[-1] == "tests":
        fits = rest >= 0 and rest % len(TEST) == 0
        return roles[:-1] + ["test"] * rest if fits else None
    if roles[-1] == "columns":
        return roles[:-1] + ["column"] * rest if rest >= 1 else None
    return roles if rest == 1 else None


def is_well_formed(kind, tokens):
    """Tell whether the tokens behind the kind make a line of this kind."""
    if kind not in KINDS or "" in tokens:
        return False
    roles = token_roles(kind, len(tokens))
    if roles is None:
        return False
    return all([role not in NUMBERS or is_number(token) for role, token in zip(roles, tokens)])


def parse_step(line, number=1):
    """Return the step of a line; `number` is the line's own, for BadLine."""
    kind, *tokens = line.split(" ")
    if not is_well_formed(kind, tokens):
        raise BadLine(int(number))
    roles = token_roles(kind, len(tokens))
    parts = [int(token) if role in NUMBERS else token for role, token in zip(roles, tokens)]
    if kind == "pair":
        tests = [tuple(parts[at:at + len(TEST)]) for at in range(3, len(parts), len(TEST))]
        return (kind, *parts[:3], tuple(tests))
    if kind == "keep":
        return kind, parts[0], tuple(parts[1:])
    return (kind, *parts)
