import itertools
import unittest

from cutproof.errors import BadPlace, BadRow, BadTable, NoRow
from cutproof.intervals import Interval
from cutproof.tables import Table
from samples import BASES, is_plain, moments_of, moved, slow_merged, slow_snapshot, spans

ONE = [(("b",), 0, 4), (("a",), 2, 6), (("b",), -3, 2), (("a",), 2, 3), (("a1",), 0, 9), (("b",), 0, 3)]
TWO = [(("b", "a"), 0, 4), (("a", "b"), 2, 6), (("a", "a"), 2, 6), (("a", "b"), -2, 9), (("b", "a"), 4, 5)]
LETTERS_AND_DIGITS = "abcdefghijklmnopqrstuvwxyz0123456789"
NO_LETTERS = [chr(code) for code in range(32, 127) if chr(code) not in LETTERS_AND_DIGITS + "%"]


def pairs_of(intervals):
    return [(interval.start, interval.stop) for interval in intervals]


def made_ways(columns, rows):
    """The same table from a list, from a tuple and row by row."""
    by_rows = Table(columns)
    for data, start, stop in rows:
        by_rows[data] = Interval(start, stop)
    return Table(columns, list(rows)), Table(columns, tuple(rows)), by_rows


def samples():
    """Tables' columns and rows, near 0 and elsewhere, also without rows and with rows twice."""
    for base in BASES:
        for columns, rows in ((1, ONE), (2, TWO)):
            for some in (rows, rows[::-1], rows + rows[1:3], rows[:1], []):
                yield columns, moved(some, base)


class MakingTables(unittest.TestCase):
    def test_rows_in_ascending_order(self):
        for columns, rows in samples():
            for table in made_ways(columns, rows):
                self.assertEqual(list(table), sorted(set(rows)))
                self.assertEqual([row for row in table], list(table))
                self.assertEqual(len(table), len(set(rows)))
                self.assertEqual(table.columns, columns)
                self.assertTrue(is_plain(list(table)))
                self.assertIs(type(table.columns), int)

    def test_a_table_from_nothing(self):
        for table in (Table(1), Table(2), Table(1, []), Table(2, ()), Table(columns=1, rows=())):
            self.assertEqual((list(table), len(table)), ([], 0))
            self.assertFalse((("a",), 0, 1) in table)
            self.assertEqual(table[("a",)], [])

    def test_in(self):
        for columns, rows in samples():
            for table in made_ways(columns, rows):
                for data, start, stop in rows:
                    self.assertIs((data, start, stop) in table, True)
                    beside = [
                        (data, start - 1, stop), (data, start + 1, stop),
                        (data, start, stop - 1), (data, start, stop + 1),
                        (data + ("a",), start, stop), (data[1:], start, stop), (("zz",) * columns, start, stop),
                    ]
                    for row in beside:
                        self.assertIs(row in table, row in rows)

    def test_getting_the_intervals_of_data(self):
        for columns, rows in samples():
            for table in made_ways(columns, rows):
                for data in [row[0] for row in rows] + [("c",) * columns]:
                    found = table[data]
                    self.assertIs(type(found), list)
                    expected = sorted(set((start, stop) for words, start, stop in rows if words == data))
                    self.assertEqual(pairs_of(found), expected)
                    self.assertTrue(all(type(interval) is Interval for interval in found))

    def test_data_that_no_table_has(self):
        for table in (Table(1, ONE), Table(2, TWO)):
            for data in ((), ("",), ("A",), ("a", "b", "c"), ("a" * 13,), (" ", "~"), ("c",), ("c", "d")):
                self.assertEqual(table[data], [])

    def test_a_row_that_comes_twice_is_held_once(self):
        table = Table(1, [(("a",), 1, 5), (("a",), 1, 5)])
        table[("a",)] = Interval(1, 5)
        self.assertEqual((list(table), len(table)), ([(("a",), 1, 5)], 1))
        self.assertEqual(pairs_of(table[("a",)]), [(1, 5)])

    def test_rows_are_kept_as_they_are(self):
        rows = [(("a",), 1, 5), (("a",), 2, 3), (("a",), 5, 7)]
        self.assertEqual(list(Table(1, rows)), rows)

    def test_rows_of_derived_kinds_become_plain(self):
        class Words(tuple):
            pass

        class Name(str):
            pass

        class Moment(int):
            pass

        rows = [Words([Words([Name("ann")]), Moment(1), Moment(5)])]
        table = Table(1, rows)
        table[Words([Name("bob")])] = Interval(Moment(2), Moment(3))
        self.assertEqual(list(table), [(("ann",), 1, 5), (("bob",), 2, 3)])
        cut = table.after_cut(rows[0], Moment(3))
        for found in (list(table), table.snapshot(2), list(cut), list(table.merged())):
            self.assertTrue(is_plain(found))

    def test_wide_rows(self):
        low, high = -(10**30) + 1, 10**30 - 1
        for table in made_ways(2, [(("a", "b"), low, high)]):
            self.assertEqual(list(table), [(("a", "b"), low, high)])
            self.assertEqual(table.snapshot(high - 1), [("a", "b")])
            self.assertEqual(table.snapshot(high), [])


class Copies(unittest.TestCase):
    def test_changing_a_list_that_was_passed(self):
        rows = list(ONE)
        table = Table(1, rows)
        rows.append((("z",), 0, 1))
        rows[0] = (("y",), 0, 1)
        self.assertEqual(list(table), sorted(ONE))

    def test_a_passed_list_is_not_changed(self):
        rows = list(ONE) + ONE[:2]
        table = Table(1, rows)
        table[("z",)] = Interval(0, 1)
        self.assertEqual(rows, list(ONE) + ONE[:2])

    def test_changing_a_list_that_came_back(self):
        table = Table(1, ONE)
        for answer in (list(table), table[("a",)], table.snapshot(2), table.lines(), list(table.merged())):
            answer.clear()
        self.assertEqual(list(table), sorted(ONE))
        self.assertEqual(len(table[("a",)]), 2)
        self.assertEqual(table.snapshot(2), [("a",), ("a1",), ("b",)])
        self.assertEqual(len(table.lines()), len(ONE))

    def test_changing_an_interval_that_was_passed_or_came_back(self):
        table, interval = Table(1), Interval(1, 5)
        table[("a",)] = interval
        interval.stop = 9
        table[("a",)][0].start = 3
        self.assertEqual(list(table), [(("a",), 1, 5)])
        self.assertEqual(pairs_of(table[("a",)]), [(1, 5)])

    def test_tables_made_from_one_another(self):
        table = Table(1, ONE)
        copy, merged = Table(1, list(table)), table.merged()
        table[("z",)] = Interval(0, 1)
        self.assertEqual(list(copy), sorted(ONE))
        self.assertEqual(list(merged), slow_merged(ONE))
        merged[("y",)] = Interval(0, 1)
        self.assertFalse((("y",), 0, 1) in table)


class BadTables(unittest.TestCase):
    def test_other_numbers_of_columns(self):
        for columns in (0, 3, 4, -1, -2, 10**29):
            for rows in ((), [], [(("a",), 0, 1)], [(("a", "b"), 0, 1)], [(("A",), 1, 0)], [(("",), 0, 0)]):
                with self.assertRaises(BadTable):
                    Table(columns, rows)

    def test_as_many_words_as_columns_do_not_help(self):
        for columns in (0, 3, 4):
            with self.assertRaises(BadTable):
                Table(columns, [(("a",) * columns, 0, 1)])


class BadRows(unittest.TestCase):
    def refuses(self, columns, row):
        """The row is refused in a list, in a tuple and by an assignment, which change nothing."""
        good = ((("a", "b", "c")[:columns]), 0, 5)
        data, start, stop = row
        for rows in ([row], (row,), [good, row], (row, good), [row, good, row]):
            kept = list(rows)
            with self.assertRaises(BadRow):
                Table(columns, rows)
            self.assertEqual(list(rows), kept)
        table = Table(columns, [good])
        with self.assertRaises(BadRow):
            table[data] = Interval(start, stop)
        self.assertEqual((list(table), len(table)), ([good], 1))
        self.assertFalse(row in table)

    def test_words_that_are_none(self):
        for word in ("", "a" * 13, "0123456789abc", "A", "Ann", "ann ", " ann", "a b", "a_b", "a-b", "1.5", "a" * 40):
            self.refuses(1, ((word,), 0, 5))
            self.refuses(2, ((word, "a"), 0, 5))
            self.refuses(2, (("a", word), 0, 5))

    def test_a_bad_character_at_each_place(self):
        for length in (1, 2, 5, 12):
            for place in range(length):
                for sign in NO_LETTERS:
                    word = "a" * place + sign + "0" * (length - place - 1)
                    with self.assertRaises(BadRow):
                        Table(1, [((word,), 0, 5)])
                    table = Table(2)
                    with self.assertRaises(BadRow):
                        table[("a", word)] = Interval(0, 5)

    def test_every_letter_and_digit_and_every_length_is_good(self):
        words = list(LETTERS_AND_DIGITS) + [LETTERS_AND_DIGITS[at:at + 12] for at in range(25)]
        words += ["a" * length for length in range(2, 13)] + ["0" * length for length in range(2, 13)]
        for word in words:
            self.assertEqual(list(Table(1, [((word,), 0, 5)])), [((word,), 0, 5)])
            table = Table(2)
            table[(word, word)] = Interval(0, 5)
            self.assertEqual(list(table), [((word, word), 0, 5)])

    def test_too_many_or_too_few_words(self):
        for data in ((), ("a", "b"), ("a", "b", "c")):
            self.refuses(1, (data, 0, 5))
        for data in ((), ("a",), ("a", "b", "c")):
            self.refuses(2, (data, 0, 5))

    def test_stops_that_are_not_greater_than_the_start(self):
        for base in BASES:
            for start, stop in ((0, 0), (1, 0), (5, 2), (3, -3)):
                self.refuses(1, (("a",), start + base, stop + base))
                self.refuses(2, (("a", "b"), start + base, stop + base))

    def test_an_empty_interval(self):
        table = Table(1)
        for interval in (Interval(0, 0), Interval(5, 5), Interval(9, -9), Interval(10**29, 10**29)):
            with self.assertRaises(BadRow):
                table[("a",)] = interval
        self.assertEqual(list(table), [])

    def test_a_bad_row_behind_good_ones_by_assignment(self):
        table = Table(1, ONE)
        for data, interval in ((("A",), Interval(0, 1)), ((), Interval(0, 1)), (("a",), Interval(1, 1))):
            with self.assertRaises(BadRow):
                table[data] = interval
            self.assertEqual(list(table), sorted(ONE))


class WhatTablesSay(unittest.TestCase):
    def check(self, table, rows):
        for moment in moments_of(rows):
            snapshot = table.snapshot(moment)
            self.assertIs(type(snapshot), list)
            self.assertEqual(snapshot, slow_snapshot(rows, moment))
        merged = table.merged()
        self.assertIs(type(merged), Table)
        self.assertEqual((list(merged), merged.columns), (slow_merged(rows), table.columns))
        self.assertIs(table.is_merged, sorted(set(rows)) == slow_merged(rows))
        self.assertIs(merged.is_merged, True)
        self.assertIs(table.says_same(merged), True)
        self.assertEqual(list(table), sorted(set(rows)))

    def test_snapshot_merged_and_is_merged(self):
        for columns, rows in samples():
            self.check(Table(columns, rows), rows)

    def test_once_more_after_a_row_was_added(self):
        for columns, rows in samples():
            for data, start, stop in [(("b",) * columns, -9, -1), (("a",) * columns, 1, 2), (("z",) * columns, 1, 5)]:
                table = Table(columns, rows)
                self.check(table, rows)
                base = min([row[1] for row in rows], default=0)
                table[data] = Interval(base + start, base + stop)
                self.check(table, [*rows, (data, base + start, base + stop)])

    def test_all_small_tables(self):
        pool = [(data, start, stop) for data in (("a",), ("b",)) for start, stop in spans(4)]
        for rows in itertools.combinations_with_replacement(pool, 2):
            self.check(Table(1, rows), list(rows))

    def test_is_merged(self):
        for base in BASES:
            for second, merged in (((5, 6), True), ((4, 6), False), ((3, 6), False), ((1, 2), False), ((-3, -1), True)):
                rows = moved([(("a",), 0, 4), (("a",), *second), (("b",), 4, 6)], base)
                self.assertIs(Table(1, rows).is_merged, merged)

    def test_is_merged_changes_with_the_table(self):
        table = Table(1)
        self.assertIs(table.is_merged, True)
        table[("a",)] = Interval(0, 2)
        table[("a",)] = Interval(3, 4)
        self.assertIs(table.is_merged, True)
        table[("a",)] = Interval(2, 3)
        self.assertIs(table.is_merged, False)

    def test_merged_is_a_new_table(self):
        table = Table(1, [(("a",), 0, 2)])
        merged = table.merged()
        merged[("a",)] = Interval(5, 6)
        self.assertEqual(list(table), [(("a",), 0, 2)])
        self.assertEqual(list(table.merged()), [(("a",), 0, 2)])

    def test_says_same(self):
        for columns, rows in samples():
            table = Table(columns, rows)
            self.assertIs(table.says_same(table), True)
            self.assertIs(table.says_same(Table(columns, slow_merged(rows))), True)
            for data, start, stop in rows:
                pieces = [(data, moment, moment + 1) for moment in range(start, stop)]
                self.assertIs(table.says_same(Table(columns, rows + pieces)), True)
            for data, start, stop in slow_merged(rows):
                longer = Table(columns, [*rows, (data, stop, stop + 1)])
                shorter = Table(columns, [row for row in slow_merged(rows) if row != (data, start, stop)])
                for other in (longer, shorter):
                    self.assertIs(table.says_same(other), False)
                    self.assertIs(other.says_same(table), False)

    def test_says_same_once_more_after_a_row_was_added(self):
        one, other = Table(1, [(("a",), 0, 5)]), Table(1, [(("a",), 0, 3)])
        self.assertIs(one.says_same(other), False)
        other[("a",)] = Interval(3, 5)
        self.assertIs(one.says_same(other), True)
        one[("a",)] = Interval(5, 6)
        self.assertIs(one.says_same(other), False)

    def test_says_same_asks_for_as_many_columns(self):
        self.assertIs(Table(1).says_same(Table(2)), False)
        self.assertIs(Table(2).says_same(Table(1)), False)
        self.assertIs(Table(2).says_same(Table(2)), True)
        self.assertIs(Table(1, ONE).says_same(Table(2, TWO)), False)


class Lines(unittest.TestCase):
    def test_words_are_filled_up_to_twelve_characters(self):
        for length in range(1, 13):
            word = "abc0123456xyz"[:length]
            self.assertEqual(Table(1, [((word,), 1, 23)]).lines(), [word + " " * (12 - length) + "        1       23"])

    def test_two_words(self):
        table = Table(2, [(("ann", "hall"), 1, 5)])
        self.assertEqual(table.lines(), ["ann          hall                1        5"])
        table = Table(2, [(("abcdefghijkl", "0"), -1, 5)])
        self.assertEqual(table.lines(), ["abcdefghijkl 0                  -1        5"])

    def test_numbers(self):
        cases = (
            (0, 1, "       0        1"),
            (-7, 0, "      -7        0"),
            (-1234567, -123456, "-1234567  -123456"),
            (1234567, 12345678, " 1234567 12345678"),
            (-12345678, 123456789, "-12345678 123456789"),
            (-(10**29), 10**29, "-1" + "0" * 29 + " 1" + "0" * 29),
        )
        for start, stop, numbers in cases:
            self.assertEqual(Table(1, [(("a",), start, stop)]).lines(), ["a" + " " * 12 + numbers])

    def test_one_line_for_each_row_in_ascending_order(self):
        table = Table(1, [(("b",), 0, 2), (("a",), 10, 20), (("a",), 9, 30), (("b",), 0, 2)])
        expected = [
            "a                   9       30",
            "a                  10       20",
            "b                   0        2",
        ]
        self.assertEqual(table.lines(), expected)
        self.assertIs(type(table.lines()), list)
        table[("aa",)] = Interval(-5, 5)
        self.assertEqual(table.lines(), [*expected[:2], "aa                 -5        5", expected[2]])

    def test_a_table_without_rows(self):
        self.assertEqual(Table(2).lines(), [])


class SomeError(Exception):
    pass


class AfterCut(unittest.TestCase):
    def test_the_row_is_replaced_by_its_pieces(self):
        for columns, rows in samples():
            for row in rows:
                data, start, stop = row
                for at in range(start + 1, stop):
                    table = Table(columns, rows)
                    new = table.after_cut(row, at)
                    self.assertIs(type(new), Table)
                    expected = (set(rows) - {row}) | {(data, start, at), (data, at, stop)}
                    self.assertEqual((list(new), new.columns), (sorted(expected), columns))
                    self.assertEqual(list(table), sorted(set(rows)))
                    self.assertTrue(new.says_same(table))

    def test_pieces_that_are_there_already(self):
        row = (("a",), 1, 5)
        for others in ([(("a",), 1, 3)], [(("a",), 3, 5)], [(("a",), 1, 3), (("a",), 3, 5)]):
            table = Table(1, [row, *others])
            self.assertEqual(list(table.after_cut(row, 3)), [(("a",), 1, 3), (("a",), 3, 5)])
            self.assertEqual(list(table), sorted([row, *others]))

    def test_no_row_comes_before_bad_place(self):
        for base in BASES:
            table = Table(1, moved([(("a",), 1, 5), (("b",), 2, 4)], base))
            absent = [(("a",), 1, 4), (("a",), 2, 5), (("b",), 1, 5), (("c",), 1, 5), (("a", "a"), 1, 5), (("A",), 1, 5)]
            for row in moved(absent, base):
                for at in range(-1, 7):
                    with self.assertRaises(NoRow):
                        table.after_cut(row, base + at)
            for at in (-1, 0, 1, 5, 6, 10**29, -(10**29)):
                with self.assertRaises(BadPlace):
                    table.after_cut((("a",), base + 1, base + 5), base + at)
            self.assertEqual(list(table), moved([(("a",), 1, 5), (("b",), 2, 4)], base))

    def test_an_empty_table_has_no_row(self):
        with self.assertRaises(NoRow):
            Table(1).after_cut((("a",), 1, 5), 3)

    def test_a_row_of_one_moment_has_no_place(self):
        with self.assertRaises(BadPlace):
            Table(1, [(("a",), 1, 2)]).after_cut((("a",), 1, 2), 1)

    def test_the_two_tables_do_not_share_rows(self):
        row = (("a",), 1, 5)
        table = Table(1, [row])
        new = table.after_cut(row, 3)
        new[("b",)] = Interval(0, 1)
        table[("c",)] = Interval(0, 1)
        self.assertEqual(list(table), [row, (("c",), 0, 1)])
        self.assertEqual(list(new), [(("a",), 1, 3), (("a",), 3, 5), (("b",), 0, 1)])


class CutInPlace(unittest.TestCase):
    def test_the_row_is_cut_and_made_whole(self):
        for columns, rows in samples():
            for row in rows:
                data, start, stop = row
                for at in range(start + 1, stop):
                    table = Table(columns, rows)
                    with table.cut(row, at):
                        inside = list(table)
                    expected = (set(rows) - {row}) | {(data, start, at), (data, at, stop)}
                    self.assertEqual(inside, sorted(expected))
                    self.assertEqual(list(table), sorted(set(rows)))

    def test_everything_inside_sees_the_cut(self):
        row = (("a",), 1, 5)
        table = Table(1, [row])
        with table.cut(row, 3):
            self.assertEqual(len(table), 2)
            self.assertIs(row in table, False)
            self.assertIs((("a",), 3, 5) in table, True)
            self.assertEqual(pairs_of(table[("a",)]), [(1, 3), (3, 5)])
            self.assertIs(table.is_merged, False)
            self.assertEqual(table.snapshot(3), [("a",)])
            self.assertTrue(table.says_same(Table(1, [row])))
            with self.assertRaises(NoRow):
                table.after_cut(row, 3)
        self.assertEqual((len(table), row in table, table.is_merged), (1, True, True))
        self.assertEqual(pairs_of(table[("a",)]), [(1, 5)])

    def test_pieces_that_are_there_already_stay(self):
        row, piece = (("a",), 1, 5), (("a",), 1, 3)
        table = Table(1, [row, piece])
        with table.cut(row, 3):
            self.assertEqual(list(table), [piece, (("a",), 3, 5)])
        self.assertEqual(list(table), [piece, row])

    def test_rows_added_inside_are_gone(self):
        row = (("a",), 1, 5)
        table = Table(1, [row, (("b",), 0, 2)])
        with table.cut(row, 3):
            table[("c",)] = Interval(0, 9)
            table[("a",)] = Interval(1, 5)
            table[("b",)] = Interval(0, 2)
            self.assertEqual(len(table), 5)
        self.assertEqual(list(table), [row, (("b",), 0, 2)])
        self.assertEqual(len(table), 2)

    def test_rows_can_be_added_afterwards(self):
        row = (("a",), 1, 5)
        table = Table(1, [row])
        with table.cut(row, 3):
            table[("b",)] = Interval(0, 1)
        table[("c",)] = Interval(0, 1)
        with table.cut(row, 2):
            pass
        self.assertEqual(list(table), [row, (("c",), 0, 1)])

    def test_an_error_inside_is_passed_on(self):
        row = (("a",), 1, 5)
        for kind in (SomeError, KeyError, BadRow):
            table, error = Table(1, [row]), kind("told")
            with self.assertRaises(kind) as caught:
                with table.cut(row, 3):
                    table[("b",)] = Interval(0, 1)
                    raise error
            self.assertIs(caught.exception, error)
            self.assertEqual(list(table), [row])

    def test_a_bad_row_inside(self):
        row = (("a",), 1, 5)
        table = Table(1, [row])
        with self.assertRaises(BadRow):
            with table.cut(row, 3):
                table[("A",)] = Interval(0, 1)
        self.assertEqual(list(table), [row])

    def test_cuts_within_cuts(self):
        row, other = (("a",), 1, 9), (("b",), 0, 4)
        table = Table(1, [row, other])
        with table.cut(row, 5):
            table[("c",)] = Interval(0, 1)
            with table.cut((("a",), 1, 5), 3), table.cut(other, 2):
                table[("d",)] = Interval(0, 1)
                self.assertEqual(pairs_of(table[("a",)]), [(1, 3), (3, 5), (5, 9)])
                self.assertEqual(pairs_of(table[("b",)]), [(0, 2), (2, 4)])
            self.assertEqual(list(table), [(("a",), 1, 5), (("a",), 5, 9), other, (("c",), 0, 1)])
        self.assertEqual(list(table), [row, other])

    def test_leaving_early(self):
        row = (("a",), 1, 5)
        table = Table(1, [row])

        def inside():
            with table.cut(row, 3):
                return list(table)

        self.assertEqual(inside(), [(("a",), 1, 3), (("a",), 3, 5)])
        self.assertEqual(list(table), [row])

    def test_the_call_itself_raises(self):
        for base in BASES:
            rows = moved([(("a",), 1, 5), (("b",), 2, 4)], base)
            table = Table(1, rows)
            for row in moved([(("a",), 1, 4), (("b",), 1, 5), (("c",), 1, 5), (("a", "a"), 1, 5)], base):
                for at in range(-1, 7):
                    with self.assertRaises(NoRow):
                        table.cut(row, base + at)
            for at in (-1, 0, 1, 5, 6, 10**29, -(10**29)):
                with self.assertRaises(BadPlace):
                    table.cut(rows[0], base + at)
            self.assertEqual(list(table), rows)

    def test_the_call_itself_does_not_cut(self):
        row = (("a",), 1, 5)
        table = Table(1, [row])
        cut = table.cut(row, 3)
        self.assertEqual(list(table), [row])
        with cut:
            self.assertEqual(len(table), 2)
        self.assertEqual(list(table), [row])


if __name__ == "__main__":
    unittest.main()
