import copy
import unittest

from countgen.counts import counted, counts_to
from countgen.draws import fair
from countgen.errors import NoDraw, TooMany
from countgen.sayings import judge_of
from countgen.shapes import read_shape
from countgen.telling import value_at
from countgen.terms import read_term
from countgen.tries import drawn_values, tried, tried_drawn
from tests.plainly import SAMPLES, at_once, lists_within, plain_values, read_sample
from tests.test_sieve import Asked, no, yes

NEVER = (("never=row(never)", "never"), ("", "alike(row(),6)"))


def spoils(value):
    """A judge that changes every list of what it is handed, and then goes by what it was."""
    kept = copy.deepcopy(value)
    for each in lists_within(value):
        each.append(9)
    return not any(len(each) > 1 for each in lists_within(kept))


class TriesCase(unittest.TestCase):
    def is_told(self, told, answer):
        self.assertEqual(told, answer)
        self.assertEqual(repr(told), repr(answer))
        self.assertIs(type(told), tuple)


class TriedTest(TriesCase):
    def refused(self, count, most, asked):
        with self.assertRaises(TooMany) as caught:
            asked()
        self.assertEqual((caught.exception.count, caught.exception.most), (count, most))

    def test_held(self):
        self.is_told(tried([], read_shape("whole(0,9)"), yes, 4), ("held", 10, None))
        self.is_told(tried([], read_shape("whole(0,9)"), yes, 2), ("held", 4, None))
        self.is_told(tried([], read_shape("text(ab)"), yes, 3), ("held", 15, None))
        self.is_told(tried([], read_shape("row()"), yes, 16), ("held", 1, None))
        self.is_told(tried([], read_shape("many(row())"), yes, 0), ("held", 1, None))

    def test_breach(self):
        shape = read_shape("whole(0,9)")
        self.is_told(tried([], shape, lambda value: value < 5, 4), ("breach", 6, 5))
        self.is_told(tried([], shape, no, 4), ("breach", 1, 0))
        self.is_told(tried([], shape, lambda value: value != 9, 4), ("breach", 10, 9))
        self.is_told(tried([], shape, lambda value: value != 9, 3), ("held", 8, None))
        told = tried([], read_shape("many(whole(0,2))"), lambda value: value == sorted(value), 3)
        self.is_told(told, ("breach", 7, [1, 0]))

    def test_size_after_size_by_their_numbers(self):
        for sample in SAMPLES:
            book, shape = read_sample(sample)
            values = []
            for size in range(5):
                values.extend(plain_values(book, shape, size))
                if len(values) > 400:
                    break
                judge = Asked()
                self.is_told(tried(book, shape, judge, size), ("held", len(values), None))
                self.assertEqual(judge.handed, values)

    def test_the_first_breach_of_all(self):
        for sample in SAMPLES:
            book, shape = read_sample(sample)
            values = [value for size in range(4) for value in plain_values(book, shape, size)]
            if len(values) <= 100:
                for place, breach in enumerate(values):
                    told = tried(book, shape, lambda value: value != breach, 3)
                    self.is_told(told, ("breach", place + 1, breach))

    def test_nobody_is_asked_behind_the_first_breach(self):
        handed = []

        def judge(value):
            handed.append(value)
            return value < 3

        self.is_told(tried([], read_shape("whole(0,9)"), judge, 4), ("breach", 4, 3))
        self.assertEqual(handed, [0, 1, 2, 3])

    def test_none_at_all(self):
        for sample in NEVER:
            book, shape = read_sample(sample)
            self.is_told(tried(book, shape, no, 5), ("held", 0, None))
            self.is_told(tried(book, shape, no, 5, 0), ("held", 0, None))

    def test_most(self):
        for sample in SAMPLES:
            book, shape = read_sample(sample)
            count = sum(counts_to(book, shape, 3))
            if 0 < count <= 400:
                judge = Asked()
                self.is_told(tried(book, shape, yes, 3, count), ("held", count, None))
                self.refused(count, count - 1, lambda: tried(book, shape, judge, 3, count - 1))
                self.refused(count, 0, lambda: tried(book, shape, judge, 3, 0))
                self.assertEqual(judge.handed, [])

    def test_the_most_by_default(self):
        self.is_told(tried([], read_shape("whole(0,399)"), yes, 9), ("held", 400, None))
        shape = read_shape("whole(0,400)")
        self.refused(401, 400, lambda: tried([], shape, yes, 9))
        self.is_told(tried([], shape, yes, 9, most=401), ("held", 401, None))
        # Of no size alone are there more than four hundred, but of all together.
        self.refused(511, 400, lambda: tried([], read_shape("text(ab)"), yes, 8))

    def test_the_count_is_told_before_any_is_asked(self):
        judge = Asked()
        shape = read_shape("many(text(abcdefghijklmnopqrst))")
        count = 1 + sum([21 ** size for size in range(16)])
        with at_once():
            for most in (0, 1, 400, 2000):
                self.refused(count, most, lambda: tried([], shape, judge, 16, most))
        self.assertEqual(judge.handed, [])

    def test_two_thousand(self):
        self.is_told(tried([], read_shape("whole(1,2000)"), yes, 16, 2000), ("held", 2000, None))
        self.refused(2001, 2000, lambda: tried([], read_shape("whole(1,2001)"), yes, 16, 2000))

    def test_answers_that_are_not_true(self):
        for answer in (1, None, 0, False, "True", [True], 2):
            handed = []
            told = tried([], read_shape("whole(5,9)"), lambda value: handed.append(value) or answer, 2)
            self.is_told(told, ("breach", 1, 5))
            self.assertEqual(handed, [5])

    def test_a_judge_that_changes_what_it_is_handed(self):
        shape = read_shape("many(many(row()))")
        self.is_told(tried([], shape, spoils, 2), ("breach", 3, [[], []]))
        self.is_told(tried([], shape, spoils, 1), ("held", 2, None))

    def test_the_breach_is_the_askers_own(self):
        handed = []

        def judge(value):
            handed.append(value)
            return value != [[[]]]

        shape = read_shape("many(many(many(row())))")
        told = tried([], shape, judge, 3)
        self.is_told(told, ("breach", 4, [[[]]]))
        lists = [id(each) for each in lists_within([told, handed])]
        self.assertEqual(len(lists), len(set(lists)))
        for each in lists_within(told[2]):
            each.append(1)
        self.is_told(tried([], shape, lambda value: value != [[[]]], 3), ("breach", 4, [[[]]]))

    def test_nothing_handed_in_is_changed(self):
        for sample in SAMPLES[-12:]:
            book, shape = read_sample(sample)
            kept = copy.deepcopy(book)
            tried(book, shape, yes, 2, 2000)
            self.assertEqual(book, kept)

    def test_judges_of_terms(self):
        shape = read_shape("many(whole(0,3))")
        held = judge_of(read_term("same(sum(here),sum(turned(here)))"))
        self.is_told(tried([], shape, held, 4), ("held", sum(counts_to([], shape, 4)), None))
        wrong = judge_of(read_term("same(here,turned(here))"))
        self.is_told(tried([], shape, wrong, 4), ("breach", 6, [0, 1]))
        astray = judge_of(read_term("less(part(here,0),9)"))
        self.is_told(tried([], shape, astray, 4), ("breach", 1, []))


def drawn_plainly(book, shape, size, numbers, base):
    """One after the other, each from what the draw ahead left."""
    count = counted(book, shape, size)
    left = list(numbers)
    told = []
    while True:
        try:
            looked_at, number = fair(left, base, count)
        except NoDraw:
            return told
        told.append(value_at(book, shape, size, number))
        left = left[looked_at:]


class DrawnTest(TriesCase):
    shape = read_shape("many(whole(0,2))")

    def test_numbers_at_and_above_the_edge(self):
        # Of size 3 there are four: the edge below the base of 10 is 8.
        self.assertEqual(counted([], self.shape, 3), 4)
        four = [[0, 0, 0], [0, 1], [1, 0], [2]]
        for number in range(10):
            told = drawn_values([], self.shape, 3, [number], 10)
            self.assertEqual(told, [four[number % 4]] if number < 8 else [])
        self.assertEqual(drawn_values([], self.shape, 3, [9, 1, 8, 8, 7, 0, 9], 10), [four[1], four[3], four[0]])
        self.assertEqual(drawn_values([], self.shape, 3, [7, 7, 7], 8), [four[3]] * 3)

    def test_none(self):
        for numbers, base in (([], 10), ([8, 9], 10), ([0, 1, 2], 3), ([0], 1), ([], 1), ([9] * 2000, 10)):
            self.assertEqual(drawn_values([], self.shape, 3, numbers, base), [])
            self.is_told(tried_drawn([], self.shape, no, 3, numbers, base), ("held", 0, None))

    def test_one_after_the_other(self):
        base = 101
        numbers = [number * 37 % base for number in range(60)] + [base - 1, 0, 0, base - 1]
        for sample in SAMPLES:
            book, shape = read_sample(sample)
            for size in range(5):
                if counted(book, shape, size) > 0:
                    told = drawn_values(book, shape, size, numbers, base)
                    self.assertEqual(told, drawn_plainly(book, shape, size, numbers, base))

    def test_each_comes_just_as_often(self):
        told = drawn_values([], self.shape, 4, list(range(100)), 100)
        count = counted([], self.shape, 4)
        self.assertEqual({told.count(value) for value in told}, {100 // count})
        self.assertEqual(len(told), 100 - 100 % count)

    def test_great_counts(self):
        shape = read_shape("many(text(abcdefghijklmnopqrst))")
        count = counted([], shape, 16)
        base = 10 ** 299
        edge = base - base % count
        told = drawn_values([], shape, 16, [edge, edge - 1, 0, base - 1, count + 5], base)
        self.assertEqual(told, [value_at([], shape, 16, number) for number in (count - 1, 0, 5)])

    def test_where_there_is_nothing_to_be_drawn(self):
        for sample in NEVER:
            book, shape = read_sample(sample)
            for numbers in ([], [0], [9, 9]):
                with self.assertRaises(NoDraw):
                    drawn_values(book, shape, 3, numbers, 10)
                judge = Asked()
                with self.assertRaises(NoDraw):
                    tried_drawn(book, shape, judge, 3, numbers, 10)
                self.assertEqual(judge.handed, [])

    def test_each_with_lists_of_its_own(self):
        shape = read_shape("many(alike(many(row()),2))")
        numbers = [3, 3, 0, 3, 1]
        first = drawn_values([], shape, 6, numbers, 10)
        kept = copy.deepcopy(first)
        self.assertEqual(first[0], first[1])
        lists = [id(each) for each in lists_within([first, drawn_values([], shape, 6, numbers, 10)])]
        self.assertEqual(len(lists), len(set(lists)))
        for each in lists_within(first):
            each.append(7)
        self.assertEqual(drawn_values([], shape, 6, numbers, 10), kept)
        self.assertEqual(numbers, [3, 3, 0, 3, 1])

    def test_tried_in_their_order(self):
        judge = Asked()
        numbers = [9, 1, 8, 3, 1, 0]
        self.is_told(tried_drawn([], self.shape, judge, 3, numbers, 10), ("held", 4, None))
        self.assertEqual(judge.handed, [[0, 1], [2], [0, 1], [0, 0, 0]])
        self.assertEqual(numbers, [9, 1, 8, 3, 1, 0])

    def test_a_breach_among_those_drawn(self):
        numbers = [9, 1, 8, 3, 1, 2, 0]
        told = tried_drawn([], self.shape, lambda value: value == sorted(value), 3, numbers, 10)
        self.is_told(told, ("breach", 4, [1, 0]))
        self.is_told(tried_drawn([], self.shape, no, 3, numbers, 10), ("breach", 1, [0, 1]))
        told = tried_drawn([], self.shape, lambda value: value != [0, 0, 0], 3, numbers, 10)
        self.is_told(told, ("breach", 5, [0, 0, 0]))

    def test_answers_that_are_not_true(self):
        for answer in (1, None, False, "True"):
            self.is_told(tried_drawn([], self.shape, lambda value: answer, 3, [2], 10), ("breach", 1, [1, 0]))

    def test_a_judge_that_changes_what_it_is_handed(self):
        shape = read_shape("many(many(row()))")
        values = plain_values([], shape, 2)
        self.assertEqual(values, [[[], []], [[()]]])
        self.is_told(tried_drawn([], shape, spoils, 2, [1, 1, 0, 1], 2), ("breach", 3, [[], []]))
        self.is_told(tried_drawn([], shape, spoils, 2, [1, 1], 2), ("held", 2, None))

    def test_more_drawn_than_any_most(self):
        self.is_told(tried_drawn([], self.shape, yes, 3, [1] * 2000, 10), ("held", 2000, None))


if __name__ == "__main__":
    unittest.main()
