import itertools
import unittest

from cutproof.tables import first_change, merge_rows, rows_at
from samples import BASES, is_plain, moments_of, moved, slow_change, slow_merged, slow_snapshot, spans

ALL_DATA = ((), ("a",), ("a", "a"), ("b", "a", "0"), ("b", "a", "0", "zz"), ("a", "b", "c", "d", "e", "f"))

# Two rows with equal data: they overlap, touch, lie within each other or apart, or begin or end together.
PLACES = (
    ((0, 4), (2, 6)),
    ((0, 4), (4, 6)),
    ((0, 9), (3, 5)),
    ((0, 4), (5, 6)),
    ((0, 4), (0, 6)),
    ((0, 6), (2, 6)),
    ((0, 4), (0, 4)),
)


def small_lists():
    """Every list of up to three rows over two sorts of data and the moments 0 to 4."""
    pool = [(data, start, stop) for data in ((), ("a", "b", "c")) for start, stop in spans(4)]
    for count in range(4):
        yield from (list(rows) for rows in itertools.combinations_with_replacement(pool, count))


def orders(rows):
    return [list(order) for order in itertools.permutations(rows)]


class MergeRows(unittest.TestCase):
    def check(self, rows):
        before = list(rows)
        merged = merge_rows(rows)
        self.assertEqual(merged, slow_merged(rows))
        self.assertIs(type(merged), list)
        self.assertTrue(is_plain(merged))
        self.assertEqual(rows, before)
        self.assertEqual(merge_rows(rows), merged)

    def test_no_rows(self):
        self.assertEqual(merge_rows([]), [])

    def test_small_lists(self):
        for rows in small_lists():
            self.check(rows)

    def test_two_rows_in_each_place(self):
        for base in BASES:
            for data in ALL_DATA:
                for place in PLACES:
                    for rows in orders(moved([(data, *pair) for pair in place], base)):
                        self.check(rows)

    def test_rows_that_touch_are_joined_and_rows_apart_are_not(self):
        for base in BASES:
            touching = moved([(("a",), 0, 2), (("a",), 2, 3)], base)
            self.assertEqual(merge_rows(touching), moved([(("a",), 0, 3)], base))
            apart = moved([(("a",), 0, 2), (("a",), 3, 4)], base)
            self.assertEqual(merge_rows(apart), apart)

    def test_a_row_within_a_longer_one_does_not_shorten_it(self):
        rows = [(("a",), -5, 9), (("a",), -3, -1), (("a",), 8, 10)]
        self.assertEqual(merge_rows(rows), [(("a",), -5, 10)])

    def test_other_data_is_not_joined(self):
        rows = [(("a",), 0, 2), (("b",), 1, 3), ((), 2, 5), (("a", "b"), 2, 4), (("a",), 2, 3)]
        for order in orders(rows):
            expected = [((), 2, 5), (("a",), 0, 3), (("a", "b"), 2, 4), (("b",), 1, 3)]
            self.assertEqual(merge_rows(order), expected)

    def test_many_rows_of_all_sorts_of_data(self):
        rows = [(data, at * 2, at * 2 + at % 3 + 1) for at in range(-9, 9) for data in ALL_DATA]
        for base in BASES:
            self.check(moved(rows[::-1] + rows[::3], base))

    def test_long_rows(self):
        low, high = -(10**30) + 1, 10**30 - 1
        rows = [((), 0, high), ((), low, 0), (("b",), low, high), (("b",), 5, 6)]
        self.assertEqual(merge_rows(rows), [((), low, high), (("b",), low, high)])

    def test_a_changed_answer_changes_no_later_one(self):
        rows = [(("a",), 0, 2), (("a",), 2, 3)]
        merge_rows(rows).clear()
        self.assertEqual(merge_rows(rows), [(("a",), 0, 3)])


class RowsAt(unittest.TestCase):
    def check(self, rows, moment):
        before = list(rows)
        snapshot = rows_at(rows, moment)
        self.assertEqual(snapshot, slow_snapshot(rows, moment))
        self.assertIs(type(snapshot), list)
        self.assertTrue(is_plain(snapshot))
        self.assertEqual(rows, before)

    def test_no_rows(self):
        for moment in (-(10**29), -1, 0, 1, 10**29):
            self.assertEqual(rows_at([], moment), [])

    def test_small_lists(self):
        for rows in small_lists():
            for moment in range(-1, 6):
                self.check(rows, moment)

    def test_ends(self):
        for base in BASES:
            rows = moved([(("a",), 0, 3)], base)
            said = [moment for moment in range(-2, 6) if rows_at(rows, base + moment) == [("a",)]]
            self.assertEqual(said, [0, 1, 2])

    def test_all_sorts_of_data_in_any_order(self):
        for base in BASES:
            rows = moved([(data, at, at + 3) for at, data in enumerate(ALL_DATA)], base)
            for order in (rows, rows[::-1], rows[3:] + rows[:4], rows + rows):
                for moment in moments_of(rows):
                    self.check(order, moment)

    def test_ascending_without_duplicates(self):
        rows = [(("b",), 0, 9), (("a", "z"), 2, 9), (("a",), 1, 5), (("b",), 3, 4), ((), 3, 4), (("9",), 0, 4)]
        self.assertEqual(rows_at(rows, 3), [(), ("9",), ("a",), ("a", "z"), ("b",)])


class SayingTheSame(unittest.TestCase):
    """Rows that say the same have equal merged rows and no first change, and only these."""

    ROWS = [((), 0, 8), (("a",), -3, 2), (("a",), 4, 7), (("a", "b", "c"), 0, 3), (("b",), 0, 3), (("b",), 2, 6)]

    def check(self, one, other, same):
        self.assertIs(merge_rows(one) == merge_rows(other), same)
        self.assertIs(first_change(one, other) is None, same)
        self.assertIs(first_change(other, one) is None, same)

    def test_all_small_lists(self):
        pool = [(data, start, stop) for data in (("a",), ("b", "b")) for start, stop in spans(3)]
        lists = [list(rows) for count in range(3) for rows in itertools.combinations_with_replacement(pool, count)]
        for one, other in itertools.product(lists, lists):
            same = all(slow_snapshot(one, moment) == slow_snapshot(other, moment) for moment in range(3))
            self.check(one, other, same)

    def test_rows_cut_at_each_place(self):
        for base in BASES:
            rows = moved(self.ROWS, base)
            for row in rows:
                rest = [other for other in rows if other != row]
                for at in range(row[1] + 1, row[2]):
                    self.check(rows, [(row[0], at, row[2]), *rest, (row[0], row[1], at)], True)

    def test_parts_repeated(self):
        for base in BASES:
            rows = moved(self.ROWS, base)
            for data, start, stop in rows:
                for first, last in itertools.combinations(range(start, stop + 1), 2):
                    self.check(rows, [*rows, (data, first, last)], True)

    def test_one_row_a_moment_longer(self):
        for base in BASES:
            rows = moved(self.ROWS[:5], base)
            for place, (data, start, stop) in enumerate(rows):
                for longer in ((data, start - 1, stop), (data, start, stop + 1)):
                    self.check(rows, [*rows[:place], longer, *rows[place + 1:]], False)

    def test_one_row_left_out(self):
        for base in BASES:
            rows = moved(self.ROWS, base)
            for row in rows:
                self.check(rows, [other for other in rows if other != row], False)

    def test_equal_words_in_data_of_other_lengths(self):
        self.check([(("a",), 0, 3)], [(("a", "a"), 0, 3)], False)
        self.check([((), 0, 3)], [], False)


class FirstChange(unittest.TestCase):
    def check(self, before, after):
        kept = list(before), list(after)
        change = first_change(before, after)
        self.assertEqual(change, slow_change(before, after))
        if change is not None:
            self.assertEqual([type(part) for part in change], [int, tuple, bool])
        self.assertEqual((before, after), kept)
        self.assertEqual(first_change(before, after), change)

    def test_all_small_lists_in_both_orders(self):
        pool = [(data, start, stop) for data in ((), ("a", "b")) for start, stop in spans(3)]
        lists = [list(rows) for count in range(3) for rows in itertools.combinations_with_replacement(pool, count)]
        for before, after in itertools.product(lists, lists):
            self.check(before, after)

    def test_rows_that_stop_in_both_orders(self):
        for base in BASES:
            longer, shorter = moved([(("a",), 0, 5)], base), moved([(("a",), 0, 3)], base)
            self.assertEqual(first_change(longer, shorter), (base + 3, ("a",), True))
            self.assertEqual(first_change(shorter, longer), (base + 3, ("a",), False))

    def test_rows_that_start_in_both_orders(self):
        for base in BASES:
            early, late = moved([((), 0, 5)], base), moved([((), 3, 5)], base)
            self.assertEqual(first_change(early, late), (base, (), True))
            self.assertEqual(first_change(late, early), (base, (), False))

    def test_the_least_moment_comes_before_the_least_data(self):
        before = [(("a",), 4, 6), (("z",), 2, 6)]
        self.assertEqual(first_change(before, []), (2, ("z",), True))
        self.assertEqual(first_change([], before), (2, ("z",), False))

    def test_the_least_data_of_either_side(self):
        for base in BASES:
            before = moved([(("b",), 0, 6), (("c",), -2, 6)], base)
            after = moved([(("a", "b"), 0, 6), (("c",), -2, 6)], base)
            self.assertEqual(first_change(before, after), (base, ("a", "b"), False))
            self.assertEqual(first_change(after, before), (base, ("a", "b"), True))

    def test_a_gap_that_is_filled(self):
        for base in BASES:
            gap = moved([(("a",), 0, 2), (("a",), 4, 9)], base)
            whole = moved([(("a",), 0, 9)], base)
            self.assertEqual(first_change(gap, whole), (base + 2, ("a",), False))
            self.assertEqual(first_change(whole, gap), (base + 2, ("a",), True))

    def test_ends_inside_of_other_rows_are_no_change(self):
        before = [(("a",), 0, 9), (("a",), 2, 3)]
        after = [(("a",), 0, 5), (("a",), 4, 9), (("b", "c", "d"), 8, 9)]
        self.assertEqual(first_change(before, after), (8, ("b", "c", "d"), False))

    def test_nothing_on_either_side(self):
        self.assertIsNone(first_change([], []))
        self.assertEqual(first_change([((), 3, 4)], []), (3, (), True))
        self.assertEqual(first_change([], [((), -3, 4)]), (-3, (), False))

    def test_long_rows(self):
        low, high = -(10**30) + 1, 10**30 - 1
        self.assertEqual(first_change([((), low, high)], [((), low, 0)]), (0, (), True))
        self.assertEqual(first_change([((), low, high - 1)], [((), low, high)]), (high - 1, (), False))


if __name__ == "__main__":
    unittest.main()
