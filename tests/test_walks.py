"""Nothing in the package changes what a loop or a comprehension walks, under whatever name it stands there."""

import ast
import pathlib
import unittest

PACKAGE = pathlib.Path(__file__).resolve().parent.parent / "cutproof"
CHANGING = set("append clear extend insert pop remove reverse setdefault update add discard sort".split())
LOOPS = (ast.For, ast.ListComp, ast.SetComp, ast.DictComp, ast.GeneratorExp)


def places(node):
    """The names of all that the value of an expression may be itself, and not a copy of it.

    An attribute goes by its own name alone, since another object may well be the same one.
    """
    if isinstance(node, ast.Name):
        return [node.id]
    if isinstance(node, ast.Attribute):
        return ["." + node.attr]
    if isinstance(node, ast.Subscript):
        return [place + "[]" for place in places(node.value)]
    if isinstance(node, ast.Starred):
        return places(node.value)
    if isinstance(node, ast.NamedExpr):
        return places(node.target) + places(node.value)
    if isinstance(node, ast.IfExp):
        return places(node.body) + places(node.orelse)
    if isinstance(node, ast.BoolOp):
        return [place for value in node.values for place in places(value)]
    return []


def walked(node):
    """The names of all that is walked by going over the value of an expression."""
    if isinstance(node, ast.Call):
        if ast.unparse(node.func) in ("enumerate", "zip", "reversed", "map", "iter"):
            return [place for value in node.args for place in walked(value)]
        if isinstance(node.func, ast.Attribute) and node.func.attr in ("items", "keys", "values"):
            return places(node.func.value)
    return places(node)


def given(target, value):
    """Each pair of names of which an assignment makes the first one stand for what the second one is."""
    if isinstance(target, (ast.Tuple, ast.List)):
        if not isinstance(value, (ast.Tuple, ast.List)) or len(target.elts) != len(value.elts):
            return []
        return [pair for part, its_value in zip(target.elts, value.elts) for pair in given(part, its_value)]
    return [(name, other) for name in places(target) for other in places(value)]


def assigned(function):
    for node in ast.walk(function):
        if isinstance(node, ast.Assign):
            for target, value in zip(node.targets, [*node.targets[1:], node.value]):
                yield from given(target, value) + given(target, node.value)
        elif isinstance(node, (ast.AnnAssign, ast.NamedExpr)) and node.value is not None:
            yield from given(node.target, node.value)


def families(function):
    """A dict of the names in a function, with one and the same worth for names that may stand for one object."""
    family = {}
    for one, other in assigned(function):
        old, new = family.setdefault(one, one), family.setdefault(other, other)
        family = {name: new if worth == old else worth for name, worth in family.items()}
    return family


def changes(part):
    """The names of all that a part of a program changes in place, and where."""
    for node in ast.walk(part):
        changed = None
        if isinstance(node, ast.Call) and isinstance(node.func, ast.Attribute) and node.func.attr in CHANGING:
            changed = node.func.value
        elif isinstance(node, ast.Call) and ast.unparse(node.func).startswith("heap"):
            changed = node.args[0]
        elif isinstance(node, ast.Subscript) and not isinstance(node.ctx, ast.Load):
            changed = node.value
        elif isinstance(node, ast.AugAssign):
            changed = node.target
        for place in [] if changed is None else places(changed):
            yield place, node.lineno


def changed_walks(source):
    """The numbers of the lines where something is changed that a loop around them walks."""
    lines = set()
    for function in ast.walk(ast.parse(source)):
        if isinstance(function, ast.FunctionDef):
            family = families(function)
            for loop in ast.walk(function):
                if isinstance(loop, LOOPS):
                    over = [loop] if isinstance(loop, ast.For) else loop.generators
                    names = [name for one in over for name in walked(one.iter)]
                    kin = {family.get(name, name) for name in names}
                    parts = loop.body if isinstance(loop, ast.For) else [loop]
                    lines.update(
                        line for part in parts for name, line in changes(part) if family.get(name, name) in kin
                    )
    return sorted(lines)


ROUND = """
def grown(rows, many):
    for turn in range(many):
        longer = []
        for row in {walks}:
            longer.append([*row, turn])
        rows = {kept}
    return rows
"""


class Walks(unittest.TestCase):
    def test_the_package(self):
        files = sorted(PACKAGE.rglob("*.py"))
        self.assertTrue(files)
        for path in files:
            self.assertEqual(changed_walks(path.read_text(encoding="utf-8")), [], path.name)

    def test_two_names_of_one_list(self):
        for walks in ("rows", "reversed(rows)", "self.old or rows", "zip(self.old, rows)"):
            for kept in ("longer", "longer if longer else rows"):
                self.assertEqual(changed_walks(ROUND.format(walks=walks, kept=kept)), [6], (walks, kept))
        for walks, kept in (("list(rows)", "longer"), ("sorted(rows)", "longer"), ("rows", "list(longer)")):
            self.assertEqual(changed_walks(ROUND.format(walks=walks, kept=kept)), [], (walks, kept))

    def test_each_way_to_change_what_is_walked(self):
        for walks in ("rows", "self.rows", "other.rows", "table[0]", "rows.items()", "one if rows else rows"):
            for change in (
                "rows.append(1)", "self.rows.pop()", "rows[0] = 1", "del rows[0]", "rows += [1]", "heappush(rows, 1)",
                "table[1].clear()", "self.rows[0] += 1",
            ):
                lines = changed_walks(f"def told(self, rows):\n    for row in {walks}:\n        {change}\n")
                first = "table" if "table" in change else "self.rows" if "self" in change else "rows"
                alike = {"table": ["table[0]"], "self.rows": ["self.rows", "other.rows"]}
                expected = alike.get(first, ["rows", "rows.items()", "one if rows else rows"])
                self.assertEqual(lines, [3] if walks in expected else [], (walks, change))


if __name__ == "__main__":
    unittest.main()
