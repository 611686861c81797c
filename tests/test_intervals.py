import itertools
import unittest

from cutproof.errors import Apart, BadPlace, CutError
from cutproof.intervals import Interval
from samples import BASES

ENDS = range(-3, 4)
PAIRS = list(itertools.product(ENDS, ENDS))
NEAR = range(-5, 6)


def fields(interval):
    return interval.start, interval.stop


def normal(start, stop):
    return (start, stop) if start < stop else (0, 0)


def held(start, stop):
    return set(range(start, stop))


def runs(moments):
    """The longest runs of neighbouring moments, as pairs (start, stop)."""
    starts = sorted(moment for moment in moments if moment - 1 not in moments)
    stops = sorted(moment + 1 for moment in moments if moment + 1 not in moments)
    return list(zip(starts, stops))


def slow_union(one, other):
    """The pair of a union, or None where the two intervals are apart."""
    first, second = held(*one), held(*other)
    if first and second and len(runs(first | second)) > 1:
        return None
    return (runs(first | second) or [(0, 0)])[0]


def all_twos():
    """Each two pairs near 0, and the same two elsewhere."""
    for base in BASES:
        for one, other in itertools.product(PAIRS, PAIRS):
            yield tuple(end + base for end in one), tuple(end + base for end in other)


class OneInterval(unittest.TestCase):
    def test_fields(self):
        for base in BASES:
            for start, stop in PAIRS:
                interval = Interval(start + base, stop + base)
                self.assertEqual(fields(interval), normal(start + base, stop + base))
                self.assertIs(type(interval.start), int)
                self.assertIs(type(interval.stop), int)

    def test_empty_intervals_are_zero_and_zero(self):
        for start, stop in ((0, 0), (7, 7), (-7, -7), (8, 7), (1, -1), (10**30 - 1, -(10**30) + 1), (10**29, 10**29)):
            self.assertEqual(fields(Interval(start, stop)), (0, 0))

    def test_wide_intervals(self):
        low, high = -(10**30) + 1, 10**30 - 1
        wide = Interval(low, high)
        self.assertEqual(fields(wide), (low, high))
        for moment in (low, low + 1, -1, 0, 1, high - 1):
            self.assertIs(moment in wide, True)
        for moment in (low - 1, high, high + 1):
            self.assertIs(moment in wide, False)

    def test_holds_its_moments_and_no_others(self):
        for base in BASES:
            for start, stop in PAIRS:
                interval = Interval(start + base, stop + base)
                for moment in NEAR:
                    self.assertIs(moment + base in interval, start <= moment < stop)

    def test_zero_and_the_ends(self):
        for start, stop in PAIRS + [(-(10**29), 10**29), (10**29, 10**29 + 1), (5, 4), (-4, -5)]:
            for moment in (0, start - 1, start, start + 1, stop - 1, stop, stop + 1):
                self.assertIs(moment in Interval(start, stop), start <= moment < stop)

    def test_bool(self):
        for base in BASES:
            for start, stop in PAIRS:
                self.assertIs(bool(Interval(start + base, stop + base)), start < stop)

    def test_keyword_arguments(self):
        self.assertEqual(fields(Interval(start=2, stop=5)), (2, 5))
        self.assertEqual([fields(part) for part in Interval(stop=5, start=2).cut(at=3)], [(2, 3), (3, 5)])

    def test_fields_are_plain_integers(self):
        class Moment(int):
            pass

        interval = Interval(Moment(2), Moment(5))
        self.assertEqual((type(interval.start), type(interval.stop)), (int, int))


class Comparing(unittest.TestCase):
    def test_all_comparisons_are_those_of_the_pairs(self):
        for one, other in all_twos():
            left, right = Interval(*one), Interval(*other)
            first, second = normal(*one), normal(*other)
            self.assertIs(left == right, first == second)
            self.assertIs(left != right, first != second)
            self.assertIs(left < right, first < second)
            self.assertIs(left <= right, first <= second)

    def test_the_empty_interval_counts_as_zero_and_zero(self):
        empty = Interval(9, 5)
        self.assertTrue(empty == Interval(-3, -4) and empty <= Interval(7, 7))
        self.assertTrue(Interval(-1, 5) < empty < Interval(0, 1))
        self.assertTrue(Interval(-9, -8) != empty)

    def test_equal_starts(self):
        self.assertTrue(Interval(2, 4) < Interval(2, 5))
        self.assertFalse(Interval(2, 5) <= Interval(2, 4))

    def test_sorting(self):
        intervals = [Interval(*pair) for pair in PAIRS]
        self.assertEqual([fields(each) for each in sorted(intervals)], sorted(normal(*pair) for pair in PAIRS))


class Combining(unittest.TestCase):
    def test_and(self):
        for one, other in all_twos():
            both = Interval(*one) & Interval(*other)
            self.assertIs(type(both), Interval)
            self.assertEqual(fields(both), (runs(held(*one) & held(*other)) or [(0, 0)])[0])

    def test_and_of_intervals_that_only_touch(self):
        self.assertEqual(fields(Interval(2, 5) & Interval(5, 9)), (0, 0))
        self.assertEqual(fields(Interval(-9, -5) & Interval(-5, -2)), (0, 0))

    def test_minus(self):
        for one, other in all_twos():
            rest = Interval(*one) - Interval(*other)
            self.assertIs(type(rest), list)
            self.assertEqual([fields(part) for part in rest], runs(held(*one) - held(*other)))

    def test_minus_an_empty_interval_does_not_split(self):
        self.assertEqual([fields(part) for part in Interval(-4, 4) - Interval(3, 3)], [(-4, 4)])
        self.assertEqual(Interval(6, 6) - Interval(-4, 4), [])

    def test_minus_of_wide_intervals(self):
        low, high = -(10**30) + 1, 10**30 - 1
        rest = Interval(low, high) - Interval(-1, 1)
        self.assertEqual([fields(part) for part in rest], [(low, -1), (1, high)])

    def test_an_interval_minus_itself(self):
        for pair in PAIRS:
            interval = Interval(*pair)
            self.assertEqual(interval - interval, [])

    def test_or(self):
        for one, other in all_twos():
            expected = slow_union(one, other)
            for left, right in ((Interval(*one), Interval(*other)), (Interval(*other), Interval(*one))):
                if expected is None:
                    with self.assertRaises(Apart):
                        left | right
                else:
                    self.assertEqual(fields(left | right), expected)

    def test_or_of_intervals_that_touch_or_have_a_gap_of_one_moment(self):
        self.assertEqual(fields(Interval(5, 9) | Interval(2, 5)), (2, 9))
        self.assertEqual(fields(Interval(-1, 0) | Interval(0, 1)), (-1, 1))
        for one, other in (((2, 5), (6, 9)), ((-2, 0), (1, 2)), ((10**29, 10**29 + 1), (10**29 + 2, 10**29 + 3))):
            with self.assertRaises(Apart):
                Interval(*one) | Interval(*other)

    def test_or_with_an_empty_interval_far_away(self):
        far = (10**29, 10**29 + 5)
        self.assertEqual(fields(Interval(*far) | Interval(4, 4)), far)
        self.assertEqual(fields(Interval(4, 4) | Interval(*far)), far)
        self.assertEqual(fields(Interval(4, 4) | Interval(7, 6)), (0, 0))

    def test_apart_is_no_other_error(self):
        try:
            Interval(1, 2) | Interval(3, 4)
        except ValueError as error:
            self.assertIs(type(error), Apart)
            self.assertIsInstance(error, CutError)
        else:
            self.fail("nothing was raised")

    def test_the_intervals_stay_and_the_answers_too(self):
        for one, other in itertools.product(PAIRS, PAIRS):
            left, right = Interval(*one), Interval(*other)
            answers = []
            for _ in range(2):
                united = None if slow_union(one, other) is None else fields(left | right)
                rest = [fields(part) for part in left - right]
                answers.append((fields(left & right), rest, united, left == right, left < right, left <= right))
            self.assertEqual(answers[0], answers[1])
            self.assertEqual((fields(left), fields(right)), (normal(*one), normal(*other)))

    def test_apart_leaves_the_intervals(self):
        left, right = Interval(1, 2), Interval(3, 4)
        for _ in range(2):
            with self.assertRaises(Apart):
                left | right
        self.assertEqual((fields(left), fields(right)), ((1, 2), (3, 4)))

    def test_results_are_intervals_of_their_own(self):
        interval, empty = Interval(1, 5), Interval(0, 0)
        for result in (interval | empty, empty | interval, (interval - empty)[0], interval & interval):
            result.start = 3
            self.assertEqual(fields(interval), (1, 5))
        (interval - empty).clear()
        self.assertEqual([fields(part) for part in interval - empty], [(1, 5)])


class Cutting(unittest.TestCase):
    def test_cut(self):
        for base in BASES:
            for start, stop in PAIRS:
                interval = Interval(start + base, stop + base)
                for at in NEAR:
                    if start < at < stop:
                        pieces = interval.cut(at + base)
                        self.assertIs(type(pieces), tuple)
                        expected = [(start + base, at + base), (at + base, stop + base)]
                        self.assertEqual([fields(piece) for piece in pieces], expected)
                    else:
                        with self.assertRaises(BadPlace):
                            interval.cut(at + base)
                    self.assertEqual(fields(interval), normal(start + base, stop + base))

    def test_the_empty_interval_has_no_place_for_a_cut(self):
        for at in (-1, 0, 1, 4, 10**29):
            with self.assertRaises(BadPlace):
                Interval(4, 4).cut(at)

    def test_bad_place_is_no_other_error(self):
        try:
            Interval(1, 5).cut(5)
        except ValueError as error:
            self.assertIs(type(error), BadPlace)
        else:
            self.fail("nothing was raised")


if __name__ == "__main__":
    unittest.main()
