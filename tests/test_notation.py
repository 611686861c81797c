import itertools
import unittest

from cutproof.errors import BadLine, BadStep
from cutproof.notation import format_step, parse_step
from samples import is_plain, raises_only

NUMBERS = (0, 1, 2, 9, 10, 11, 42, 90, 99)
# Every sign from ! to ~ but the percent sign, in words of 1 to 12 signs.
SIGNS = "".join(chr(code) for code in range(33, 127) if chr(code) != "%")
WORDS = [SIGNS[at:at + 1 + at % 12] for at in range(0, len(SIGNS), 5)]
WORDS += ["a", "0", "00", "7", "-1", "duty", "abcdefghij12", "start", "stop", "meet", "pair", "(", ",", "''", "<="]

# What a token that must be a number is replaced by to make a line that is not well formed.
NO_NUMBERS = (
    "-1", "+1", "-0", "+0", "00", "01", "09", "000", "100", "999", "1000", "007", "a", "1a", "a1", "x", "1.", ".5",
    "1_", "_1", "1_0", "0x1", "1e1", "O", "l", "(1)", "1,", "!", "~", "--", "None", "start",
)


def tests_of(many):
    """So many tests, of which not all would be valid in a plan."""
    words = itertools.cycle(WORDS)
    usual = [("start", "<", "stop"), ("stop", ">=", "start"), ("stop", "=", "stop")]
    return tuple(usual[at] if at < 2 else (next(words), next(words), next(words)) for at in range(many))


def steps_and_lines():
    """Steps of each kind, with the line of each."""
    for one, other, third in zip(NUMBERS, NUMBERS[3:] + NUMBERS[:3], NUMBERS[5:] + NUMBERS[:5]):
        yield ("same", one, other, third), f"same {one} {other} {third}"
        yield ("clip", other, third, one), f"clip {other} {third} {one}"
        yield ("union", third, one), f"union {third} {one}"
        for many in range(1, 10):
            columns = (NUMBERS[many - 1:] + NUMBERS)[:many]
            yield ("keep", one, columns), f"keep {one} " + " ".join(map(str, columns))
        for word, end, span in zip(WORDS, WORDS[1:] + ["start"], WORDS[2:] + ["stop", "meet"]):
            yield ("table", word, one), f"table {word} {one}"
            yield ("is", one, other, word), f"is {one} {other} {word}"
            yield ("when", one, end, word, other), f"when {one} {end} {word} {other}"
            yield ("pair", one, other, span, ()), f"pair {one} {other} {span}"
        for many in range(6):
            tests = tests_of(many)
            line = " ".join([f"pair {other} {third} hull", *[" ".join(test) for test in tests]])
            yield ("pair", other, third, "hull", tests), line


# One line of each kind and length, and the places of its numbers.
LINES = (
    ("table duty 2", (2,)),
    ("same 0 1 2", (1, 2, 3)),
    ("is 10 3 ann", (1, 2)),
    ("when 4 start < 0", (1, 4)),
    ("clip 5 0 1", (1, 2, 3)),
    ("pair 1 0 meet", (1, 2)),
    ("pair 1 0 gap start < stop", (1, 2)),
    ("pair 1 99 left start < stop stop = stop", (1, 2)),
    ("union 6 7", (1, 2)),
    ("keep 8 0", (1, 2)),
    ("keep 8 0 11 5 5", (1, 2, 3, 4, 5)),
)


class Notation(unittest.TestCase):
    def test_the_example_of_the_document(self):
        self.assertEqual(parse_step("table duty 1"), ("table", "duty", 1))
        self.assertEqual(parse_step("pair 0 1 left start < start"), ("pair", 0, 1, "left", (("start", "<", "start"),)))
        self.assertEqual(parse_step("keep 2 1"), ("keep", 2, (1,)))
        self.assertEqual(format_step(("table", "room", 1)), "table room 1")
        self.assertEqual(format_step(("keep", 2, (1, 0))), "keep 2 1 0")
        pair = ("pair", 0, 1, "gap", (("start", "<", "start"), ("stop", ">=", "start")))
        self.assertEqual(format_step(pair), "pair 0 1 gap start < start stop >= start")

    def test_there_and_back(self):
        for step, line in steps_and_lines():
            self.assertEqual(format_step(step), line)
            self.assertIs(type(format_step(step)), str)
            for found in (parse_step(line), parse_step(line, 7), parse_step(line, number=3), parse_step(line)):
                self.assertEqual(found, step)
                self.assertIs(type(found), tuple)
                self.assertTrue(is_plain(found))
            self.assertEqual(format_step(step), line)

    def test_nothing_but_the_form_is_checked(self):
        self.assertEqual(parse_step("table Duty! 77"), ("table", "Duty!", 77))
        self.assertEqual(parse_step("when 3 now != 9"), ("when", 3, "now", "!=", 9))
        self.assertEqual(parse_step("clip 0 5 4"), ("clip", 0, 5, 4))
        self.assertEqual(format_step(("keep", 3, ())), "keep 3")
        self.assertEqual(format_step(("table", "Duty!", 123)), "table Duty! 123")

    def test_a_line_or_a_step_of_derived_classes(self):
        class Line(str):
            pass

        class Number(int):
            pass

        self.assertTrue(is_plain(parse_step(Line("pair 1 0 gap start < stop"), Number(4))))
        self.assertIs(type(format_step((Line("table"), Line("duty"), Number(1)))), str)
        self.assertIs(type(format_step((Line("table"),))), str)
        error = raises_only(self, BadLine, lambda: parse_step(Line("keep"), Number(4)))
        self.assertTrue(is_plain(error.number))


class WrongLines(unittest.TestCase):
    def check(self, line):
        for number in (1, 2, 9, 12, 100):
            error = raises_only(self, BadLine, lambda: parse_step(line, number))
            self.assertEqual(error.number, number, line)
            self.assertIs(type(error.number), int)
        self.assertEqual(raises_only(self, BadLine, lambda: parse_step(line)).number, 1)
        self.assertFalse(issubclass(BadLine, BadStep))

    def test_the_lines_themselves_are_well_formed(self):
        for line, _ in LINES:
            self.assertEqual(format_step(parse_step(line)), line)

    def test_a_token_that_is_no_number(self):
        for line, places in LINES:
            tokens = line.split(" ")
            for place in places:
                for token in NO_NUMBERS:
                    self.check(" ".join([*tokens[:place], token, *tokens[place + 1:]]))

    def test_a_space_too_many(self):
        for line, _ in LINES:
            self.check(" " + line)
            self.check(line + " ")
            for at in [at for at, letter in enumerate(line) if letter == " "]:
                self.check(line[:at] + " " + line[at:])

    def test_a_token_too_few_or_too_many(self):
        for line, _ in LINES:
            shorter = line.rsplit(" ", 1)[0]
            # A keep with more than one column may have one more or one less.
            if line.count(" ") != 5 or not line.startswith("keep"):
                self.check(shorter)
            if not line.startswith("keep"):
                self.check(line + " 1")
                self.check(line + " 1 1")
            self.check(line.split(" ")[0])

    def test_parts_of_tests(self):
        for many in range(1, 5):
            tokens = "pair 1 0 meet".split(" ") + ["start", "<", "stop"] * many
            self.check(" ".join(tokens[:-1]))
            self.check(" ".join(tokens[:-2]))
        self.check("pair 1 0")
        self.check("pair 1")
        self.check("keep 0")

    def test_another_kind(self):
        for line, _ in LINES:
            rest = line.split(" ", 1)[1]
            for kind in ("", "tables", "Table", "TABLE", "tabl", "join", "0", "1", "a", "keep2", "pairs", "~"):
                self.check(f"{kind} {rest}")
            self.check(rest)

    def test_nearly_nothing(self):
        for line in ("", " ", "  ", "0", "table", "a b c", "-"):
            self.check(line)


if __name__ == "__main__":
    unittest.main()
