import itertools
import random
import sys
import unittest

from cutproof import errors
from cutproof.errors import BadMarks, CutError, TooMany
from cutproof.orders import Order, cut_patterns, patterns
from samples import BASES, BAD_MARKS, SEED, is_plain, raises_only, signs, spans

BIG = 10**28


def slow_tight(numbers, marks):
    """The tight form in the words of the issue: by counting different numbers."""
    tight = []
    for number in numbers:
        if not marks:
            tight.append(len({other for other in numbers if other < number}))
        elif number < marks[0]:
            tight.append(marks[0] - len({other for other in numbers if number <= other < marks[0]}))
        else:
            mark = max(mark for mark in marks if mark <= number)
            tight.append(mark + len({other for other in numbers if mark < other <= number}))
    return tuple(tight)


def lists_and_marks():
    """Lists of numbers and lists of marks, in every place relative to each other."""
    pick = random.Random(SEED)
    for base in BASES:
        for length in range(9):
            for count in range(5):
                for reach in (6, 14, 60):
                    numbers = [base + pick.randrange(-reach, reach) for _ in range(length)]
                    yield numbers, sorted(base + at for at in pick.sample(range(-6, 7), count))
    for base in BASES:
        for numbers in itertools.product(range(-2, 4), repeat=3):
            for marks in ((), (-1,), (0, 1), (-1, 1), (-9, 9)):
                yield [base + number for number in numbers], [base + mark for mark in marks]
    for length in range(9):
        for count in range(5):
            numbers = [pick.randrange(-(10**30) + 1, 10**30) for _ in range(length)]
            yield numbers, sorted({pick.choice([*numbers, pick.randrange(10**30)]) for _ in range(count)})


class Tight(unittest.TestCase):
    def test_the_examples_of_the_document(self):
        self.assertEqual(Order.tight([9, 4, 30, 9]), (1, 0, 2, 1))
        self.assertEqual(Order.tight([9, 4, 30, 9], [7, 20]), (8, 6, 21, 8))

    def test_numbers_in_each_place(self):
        for base in BASES:
            marks = (base, base + 5)
            for numbers, expected in (
                ((), ()),
                ((0,), (0,)),
                ((5,), (5,)),
                ((-7,), (-1,)),
                ((-7, -3, -7), (-2, -1, -2)),
                ((2, 4, 2), (1, 2, 1)),
                ((5, 0, 5), (5, 0, 5)),
                ((8, 7, 9, 7), (7, 6, 8, 6)),
                ((-4, 0, 3, 5, 6), (-1, 0, 1, 5, 6)),
                ((1, 2, 3, 4), (1, 2, 3, 4)),
            ):
                moved = [base + number for number in numbers]
                self.assertEqual(Order.tight(moved, marks), tuple(base + number for number in expected))

    def test_marks_without_a_place_between_them(self):
        self.assertEqual(Order.tight([9, 3, 4, 5, 0], (4, 5)), (6, 3, 4, 5, 2))

    def test_many_lists(self):
        for numbers, marks in lists_and_marks():
            expected = slow_tight(numbers, marks)
            for one, other in ((numbers, marks), (tuple(numbers), tuple(marks)), (tuple(numbers), marks)):
                tight = Order.tight(one, other)
                self.assertEqual(tight, expected)
                self.assertTrue(type(tight) is tuple and is_plain(tight))
            self.assertEqual(signs(tight, marks), signs(numbers, marks))
            self.assertEqual(Order.tight(tight, marks), tight)
            if not marks:
                self.assertEqual(Order.tight(numbers), expected)

    def test_arguments_stay(self):
        numbers, marks = [9, 4, 30, 9], [7, 20]
        Order.tight(numbers, marks)
        Order.same(numbers, numbers, marks)
        self.assertEqual((numbers, marks), ([9, 4, 30, 9], [7, 20]))

    def test_numbers_of_a_derived_class_become_plain_ones(self):
        class Moment(int):
            pass

        for marks in ((), (Moment(4),), [Moment(4), Moment(9)]):
            self.assertTrue(is_plain(Order.tight([Moment(4), Moment(3), Moment(7)], marks)))

    def test_bad_marks(self):
        for base in BASES:
            for marks in BAD_MARKS:
                moved = [base + mark for mark in marks]
                for call in (
                    lambda: Order.tight([], moved),
                    lambda: Order.tight((base, base + 9), tuple(moved)),
                    lambda: Order.same([], [], moved),
                    lambda: Order.same([base], [], tuple(moved)),
                ):
                    raises_only(self, BadMarks, call)

    def test_the_error_has_no_other_class_of_the_package(self):
        others = [name for name in dir(errors) if not name.startswith("_") and name not in ("BadMarks", "CutError")]
        self.assertTrue(issubclass(BadMarks, CutError))
        for name in others:
            self.assertFalse(issubclass(BadMarks, getattr(errors, name)), name)

    def test_an_order_is_made_without_arguments(self):
        order = Order()
        self.assertEqual(order.tight([5, 3]), (1, 0))
        self.assertIs(order.same([5, 3], [2, 1]), True)


class Same(unittest.TestCase):
    def check(self, one, two, marks):
        expected = len(one) == len(two) and signs(one, marks) == signs(two, marks)
        self.assertIs(Order.same(one, two, marks), expected)
        self.assertIs(Order.same(tuple(two), tuple(one), tuple(marks)), expected)

    def test_a_list_itself_and_its_tight_form(self):
        for numbers, marks in lists_and_marks():
            self.assertIs(Order.same(numbers, numbers, marks), True)
            self.assertIs(Order.same(numbers, Order.tight(numbers, marks), marks), True)

    def test_lists_that_are_slightly_different(self):
        for numbers, marks in lists_and_marks():
            for at in range(len(numbers)):
                for step in (-1, 1, 40):
                    self.check(numbers, [*numbers[:at], numbers[at] + step, *numbers[at + 1:]], marks)
                self.check(numbers, numbers[:at] + numbers[at + 1:], marks)
                self.check(numbers, [*numbers, numbers[at]], marks)

    def test_all_short_lists(self):
        for base in BASES:
            for marks in ((), (base,), (base - 1, base + 1)):
                lists = [[base + at for at in some] for some in itertools.product(range(-2, 3), repeat=2)]
                for one, two in itertools.product(lists, repeat=2):
                    self.check(one, two, marks)

    def test_without_marks(self):
        self.assertIs(Order.same([1, 2], [5, 9]), True)
        self.assertIs(Order.same([1, 2], [9, 5]), False)
        self.assertIs(Order.same([1, 1], [5, 9]), False)
        self.assertIs(Order.same([], []), True)
        self.assertIs(Order.same([], [1]), False)
        self.assertIs(Order.same([4], [4, 4]), False)


ALLOWED = [(count, many) for count in (1, 2, 3) for many in range(5) if 2 * count + many <= 6]


def marks_for(many):
    """Some lists of so many marks: side by side, close together, far apart."""
    for base in BASES:
        for gap in (1, 2, 3, 9, BIG):
            yield tuple(base // 10 + at * gap for at in range(many))


def numbers_of(pairs):
    return [end for pair in pairs for end in pair]


class Patterns(unittest.TestCase):
    def test_how_many_there_are_without_marks(self):
        for count, many, cut in ((1, 1, 1), (2, 13, 25), (3, 409, 1177)):
            self.assertEqual(len(list(patterns(count))), many)
            self.assertEqual(len(list(cut_patterns(count))), cut)

    def test_how_many_there_are_with_marks(self):
        for marks, many, cut in (((0,), None, 239), ((0, 2), None, 756), ((0, 4), None, 1115), ((0, 9), 409, 1177)):
            self.assertEqual(len(list(cut_patterns(2, marks))), cut)
            self.assertIn(many, (None, len(list(patterns(2, marks)))))

    def test_counts_that_are_too_small(self):
        for marks in ((), (3,), (3, 9)):
            self.assertEqual([list(patterns(count, marks)) for count in (0, -1, -2)], [[()], [], []])
            self.assertEqual([list(cut_patterns(count, marks)) for count in (0, -1, -2)], [[], [], []])

    def test_the_least_ones(self):
        self.assertEqual(list(patterns(1)), [((0, 1),)])
        self.assertEqual(list(cut_patterns(1)), [(1, ((0, 2),))])
        self.assertEqual(list(patterns(1, [5])), [((3, 4),), ((4, 5),), ((4, 6),), ((5, 6),), ((6, 7),)])
        self.assertEqual(list(patterns(1, (5, 6)))[-3:], [((5, 7),), ((6, 7),), ((7, 8),)])

    def test_shape_order_and_tight_form(self):
        for count, many in ALLOWED:
            for marks in set(marks_for(many)):
                found = list(patterns(count, marks))
                self.assertEqual(found, sorted(set(found)))
                for pairs in found:
                    self.assertEqual([len(pair) for pair in pairs], [2] * count)
                    self.assertTrue(all(start < stop for start, stop in pairs))
                    self.assertTrue(type(pairs) is tuple and is_plain(pairs))
                    self.assertTrue(all(type(pair) is tuple for pair in pairs))
                    self.assertEqual(list(slow_tight(numbers_of(pairs), marks)), numbers_of(pairs))
                self.assertEqual(list(patterns(count, list(marks))), found)

    def test_shape_order_and_tight_form_with_a_cut(self):
        for count, many in ALLOWED:
            for marks in list(dict.fromkeys(marks_for(many)))[:7]:
                found = list(cut_patterns(count, marks))
                self.assertEqual(found, sorted(set(found)))
                for cut in found:
                    at, pairs = cut
                    self.assertEqual([len(pair) for pair in pairs], [2] * count)
                    self.assertTrue(all(start < stop for start, stop in pairs))
                    self.assertTrue(pairs[0][0] < at < pairs[0][1])
                    self.assertTrue(type(cut) is tuple and type(pairs) is tuple and is_plain(cut))
                    numbers = [at, *numbers_of(pairs)]
                    self.assertEqual(list(slow_tight(numbers, marks)), numbers)
                self.assertEqual(list(cut_patterns(count, list(marks))), found)

    def test_none_is_missing(self):
        for count, marks, low, high in (
            (1, (), 0, 4), (2, (), 0, 5), (1, (4,), 0, 8), (1, (4, 5), 0, 9), (1, (4, 6), 0, 10),
            (1, (-4, -3, -1), -8, 4), (2, (0,), -5, 5), (1, (0, 1, 2, 3), -4, 8), (2, (-1, 0), -6, 5),
        ):
            pairs = [(low + start, low + stop) for start, stop in spans(high - low)]
            tried = list(itertools.product(pairs, repeat=count))
            tight = [some for some in tried if list(slow_tight(numbers_of(some), marks)) == numbers_of(some)]
            self.assertEqual(list(patterns(count, marks)), tight)
            cuts = [(at, some) for at in range(low, high + 1) for some in tried if some[0][0] < at < some[0][1]]
            with_at = [(cut, [cut[0], *numbers_of(cut[1])]) for cut in cuts]
            tight = [cut for cut, numbers in with_at if list(slow_tight(numbers, marks)) == numbers]
            self.assertEqual(list(cut_patterns(count, marks)), tight)

    def test_each_order_occurs_once(self):
        pick = random.Random(SEED)
        for count, many in ALLOWED:
            for marks in list(dict.fromkeys(marks_for(many)))[::4]:
                found, cuts = list(patterns(count, marks)), list(cut_patterns(count, marks))
                for _ in range(30):
                    pairs = random_pairs(pick, count, marks)
                    tight = tied(Order.tight(numbers_of(pairs), marks))
                    like = [some for some in found if orders_alike(numbers_of(some), numbers_of(pairs), marks)]
                    self.assertEqual(like, [tight])
                    at = pick.randrange(pairs[0][0] + 1, pairs[0][1])
                    tight = Order.tight([at, *numbers_of(pairs)], marks)
                    self.assertEqual(cuts.count((tight[0], tied(tight[1:]))), 1)

    def test_asked_twice_and_changed_arguments(self):
        marks = [10, 20]
        first = list(patterns(2, marks)), list(cut_patterns(2, marks))
        self.assertEqual((list(patterns(2, marks)), list(cut_patterns(2, marks))), first)
        self.assertEqual(marks, [10, 20])

    def test_they_are_generators(self):
        for generate in (patterns, cut_patterns):
            found = generate(2)
            self.assertIs(iter(found), found)
            self.assertEqual(next(found), list(generate(2))[0])


def lines_run(call):
    """How many lines of Python a call runs: a measure of time that is the same on every machine."""
    many = 0

    def count_lines(frame, event, value):
        nonlocal many
        many += event == "line"
        return count_lines

    before = sys.gettrace()
    sys.settrace(count_lines)
    try:
        call()
    finally:
        sys.settrace(before)
    return many


class HowLong(unittest.TestCase):
    def test_few_lines_for_each_tuple(self):
        # When what still lacks was reckoned anew for each tuple that is begun, these took 300 to 1200 lines a tuple.
        for generate, count, marks in (
            (cut_patterns, 2, (0, 9)), (cut_patterns, 2, (0, 4)), (cut_patterns, 2, (0, 2)), (cut_patterns, 3, ()),
            (cut_patterns, 2, (0,)), (patterns, 2, (0, 9)), (patterns, 3, ()),
        ):
            many = len(list(generate(count, marks)))
            self.assertLess(lines_run(lambda: list(generate(count, marks))), 150 * many, (count, marks))


class PatternErrors(unittest.TestCase):
    def check(self, error, count, marks):
        for generate in (patterns, cut_patterns):
            for kind in (list, tuple):
                found = generate(count, kind(marks))
                raises_only(self, error, lambda: next(found))

    def test_bad_marks_when_the_iteration_begins(self):
        for base in BASES:
            for marks in BAD_MARKS:
                for count in (1, 2, 3, 4, 9):
                    self.check(BadMarks, count, [base + mark for mark in marks])

    def test_bad_marks_come_first(self):
        self.check(BadMarks, 1, [0, 1, 2, 3, 4, 4])
        self.check(BadMarks, 4, [1, 0])

    def test_too_many_when_the_iteration_begins(self):
        for base in BASES:
            for count in range(1, 9):
                for many in range(8):
                    marks = [base + 3 * at for at in range(many)]
                    if 2 * count + many > 6:
                        self.check(TooMany, count, marks)
                    else:
                        self.assertTrue(list(patterns(count, marks)))


def random_pairs(pick, count, marks):
    """Pairs with room for a cut, close to the marks or far away."""
    near = list(marks) or [0]
    pairs = []
    for _ in range(count):
        reach = pick.choice([4, 12, 10**29 - 1])
        ends = [pick.choice(near) + pick.randrange(-reach, reach + 1) if reach < 99 else
                pick.randrange(-reach, reach + 1) for _ in range(2)]
        start, stop = sorted(ends)
        pairs.append((start, stop if stop > start + 1 else start + 2))
    return pairs


def tied(numbers):
    return tuple((numbers[at], numbers[at + 1]) for at in range(0, len(numbers), 2))


def orders_alike(one, two, marks):
    return signs(one, marks) == signs(two, marks)


if __name__ == "__main__":
    unittest.main()
