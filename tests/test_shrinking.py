import copy
import unittest

from countgen.books import read_book
from countgen.counts import counted
from countgen.errors import NoBreach, NoValue
from countgen.judging import fits, size_of
from countgen.sayings import judge_of
from countgen.shapes import read_shape
from countgen.shrinking import at_rest, shrunk
from countgen.steps import steps_of
from countgen.telling import value_at
from countgen.terms import read_term
from tests.plainly import SAMPLES, at_once, lists_within, plain_steps, plain_values, read_sample
from tests.test_judging import ANYTHING
from tests.test_sieve import Asked, no, yes

MANY = read_shape("many(whole(0,9))")
# Judges of whatever value, each with another thing for which it does not hold.
JUDGES = (
    no, lambda value: repr(value).count("1") < 1, lambda value: len(repr(value)) < 9, lambda value: "a" not in repr(value),
    lambda value: repr(value).count("(") < 3, lambda value: repr(value).count("[") < 2, lambda value: len(repr(value)) % 3)


def shrunk_plainly(book, shape, judge, value):
    told = [value]
    while True:
        breaches = [step for step in plain_steps(book, shape, told[-1]) if judge(copy.deepcopy(step)) is not True]
        if not breaches:
            return told
        told.append(breaches[0])


class ShrinkingCase(unittest.TestCase):
    def told(self, text, judge, value, breaches, book=()):
        with self.subTest(shape=text, value=value):
            kept = copy.deepcopy(value)
            answer = shrunk(list(book), read_shape(text), judge, value)
            self.assertEqual(answer, breaches)
            self.assertEqual(repr(answer), repr(breaches))
            self.assertEqual(value, kept)

    def refused(self, error, asked):
        with self.assertRaises(error) as caught:
            asked()
        self.assertIs(type(caught.exception), error)
        return caught.exception


class ShrunkTest(ShrinkingCase):
    def test_whole_numbers(self):
        self.told("whole(0,100)", lambda value: value < 5, 100, [100, 6])
        self.told("whole(0,100)", lambda value: value < 5, 5, [5])
        self.told("whole(0,100)", no, 100, [100, 0])
        self.told("whole(0,100)", no, 0, [0])
        self.told("whole(0,100)", lambda value: value % 2 == 0, 13, [13, 1])
        self.told("whole(-8,100)", lambda value: value < 20, 99, [99, 45])

    def test_texts(self):
        self.told("text(ab)", lambda value: value.count("a") < 2, "babab", ["babab", "abab", "aab", "aa"])

    def test_lists(self):
        unsorted = [3, 5, 4]
        judge = judge_of(read_term("same(here,turned(here))"))
        self.told("many(whole(0,9))", judge, unsorted, [[3, 5, 4], [5, 4], [0, 4], [0, 1]])
        self.told("many(whole(0,9))", lambda value: sum(value) < 9, [9, 9], [[9, 9], [9]])
        self.told("unlike(whole(0,9))", lambda value: len(value) < 2, [1, 4, 9], [[1, 4, 9], [4, 9], [0, 9], [0, 1]])

    def test_trees(self):
        book = read_book("tree=pick(leaf:whole(0,3),node:row(tree,tree))")
        leaf = ("leaf", 3)
        pair = ("node", (leaf, leaf))
        self.told("tree", lambda value: value[0] == "leaf", ("node", (pair, pair)), [
            ("node", (pair, pair)), pair, ("node", (("leaf", 0), leaf)), ("node", (("leaf", 0), ("leaf", 0)))], book)
        self.told("tree", lambda value: "3" not in repr(value), ("node", (pair, pair)), [
            ("node", (pair, pair)), pair, leaf], book)

    def test_the_first_step_that_is_a_breach(self):
        for sample in SAMPLES:
            book, shape = read_sample(sample)
            for size in range(5):
                if counted(book, shape, size) <= 40:
                    for value in plain_values(book, shape, size):
                        for judge in JUDGES:
                            self.is_shrunk(book, shape, judge, value)

    def is_shrunk(self, book, shape, judge, value):
        breach = judge(copy.deepcopy(value)) is not True
        if not breach:
            self.refused(NoBreach, lambda: shrunk(book, shape, judge, value))
            self.assertIs(at_rest(book, shape, judge, value), False)
            return
        told = shrunk(book, shape, judge, value)
        self.assertEqual(told, shrunk_plainly(book, shape, judge, value))
        self.assertIs(at_rest(book, shape, judge, value), len(told) == 1)
        self.assertIs(at_rest(book, shape, judge, told[-1]), True)

    def test_up_to_size_sixteen(self):
        for sample in SAMPLES:
            book, shape = read_sample(sample)
            count = counted(book, shape, 16)
            for number in sorted({0, count // 2, count - 1}):
                if 0 <= number < count:
                    value = value_at(book, shape, 16, number)
                    for judge in (no, lambda each: size_of(book, shape, each) < 3):
                        with at_once():
                            told = shrunk(book, shape, judge, value)
                        self.is_a_way_down(book, shape, judge, value, told)

    def is_a_way_down(self, book, shape, judge, value, told):
        sizes = [size_of(book, shape, each) for each in told]
        self.assertEqual(told[0], value)
        self.assertEqual(sizes, sorted(set(sizes), reverse=True))
        self.assertLessEqual(len(told), sizes[0] + 1)
        self.assertTrue(all(judge(each) is not True for each in told))
        for one, other in zip(told, told[1:]):
            steps = steps_of(book, shape, one)
            self.assertIn(other, steps)
            self.assertTrue(all(judge(step) is True for step in steps[:steps.index(other)]))
        self.assertTrue(all(judge(step) is True for step in steps_of(book, shape, told[-1])))

    def test_as_many_as_the_size_and_one(self):
        sixteen = "a" * 16
        told = shrunk([], read_shape("text(a)"), no, sixteen)
        self.assertEqual(told, [sixteen[:length] for length in range(16, -1, -1)])

    def test_no_breach(self):
        self.refused(NoBreach, lambda: shrunk([], MANY, yes, [1, 2]))
        self.refused(NoBreach, lambda: shrunk([], MANY, lambda value: len(value) < 3, [1, 2]))
        # Steps that are breaches do not make the value one.
        self.refused(NoBreach, lambda: shrunk([], MANY, lambda value: len(value) > 0, [0]))

    def test_no_value_ahead_of_no_breach(self):
        for sample in SAMPLES:
            book, shape = read_sample(sample)
            for place, thing in enumerate(ANYTHING):
                if not fits(book, shape, thing):
                    for judge in (yes, no):
                        caught = self.refused(NoValue, lambda: shrunk(book, shape, judge, thing))
                        self.assertIs(caught.value, thing)

    def test_a_judge_is_not_asked_of_what_is_no_value(self):
        judge = Asked()
        value = [1, True]
        self.assertIs(self.refused(NoValue, lambda: shrunk([], MANY, judge, value)).value, value)
        self.assertIs(self.refused(NoValue, lambda: at_rest([], MANY, judge, value)).value, value)
        self.assertEqual(judge.handed, [])

    def test_answers_that_are_not_true(self):
        for answer in (1, None, 0, "True", [1], False):
            self.assertEqual(shrunk([], MANY, lambda value: answer, [2]), [[2], []])
            self.assertIs(at_rest([], MANY, lambda value: answer, [2]), False)
            self.assertIs(at_rest([], MANY, lambda value: answer, []), True)
            # Half of them are no breach: 1 is not True there either.
            self.assertEqual(shrunk([], MANY, lambda value: answer if value else True, [2]), [[2], [0]])

    def test_a_judge_that_changes_what_it_is_handed(self):
        def judge(value):
            short = len(value) < 2
            for each in lists_within(value):
                each.clear()
            return short

        value = [[1], [0, 1], [1, 1]]
        self.told("many(many(whole(0,1)))", judge, value, [
            value, [[0, 1], [1, 1]], [[1], [1, 1]], [[], [1, 1]], [[], [1]], [[], []]])
        self.assertIs(at_rest([], read_shape("many(many(whole(0,1)))"), judge, [[], []]), True)
        self.assertIs(at_rest([], read_shape("many(many(whole(0,1)))"), judge, value), False)
        self.assertEqual(value, [[1], [0, 1], [1, 1]])

    def test_lists_are_the_askers_own(self):
        judge = Asked()
        shape = read_shape("many(alike(many(row()),2))")
        value = [[[()], [()]], [[], []]]
        kept = copy.deepcopy(value)

        def breach(value):
            judge(value)
            return len(value) == 0

        first = shrunk([], shape, breach, value)
        answer = copy.deepcopy(first)
        lists = [id(each) for each in lists_within([first, shrunk([], shape, breach, value), value, judge.handed])]
        self.assertEqual(len(lists), len(set(lists)))
        for each in lists_within(first):
            each.append(7)
        self.assertEqual(value, kept)
        self.assertEqual(shrunk([], shape, breach, value), answer)

    def test_asked_in_turn_and_no_further(self):
        judge = Asked()

        def breach(value):
            judge(value)
            return value not in (13, 3)

        self.assertEqual(shrunk([], read_shape("whole(0,20)"), breach, 13), [13, 3])
        self.assertEqual(judge.handed, [13, 0, 1, 3, 0, 1])


class AtRestTest(ShrinkingCase):
    def test_no_breach(self):
        for value in ([], [1], [1, 2]):
            self.assertIs(at_rest([], MANY, yes, value), False)
        # No step of it is a breach, but it is none itself.
        self.assertIs(at_rest([], MANY, lambda value: value == [], []), False)

    def test_a_breach_with_a_step_that_is_one(self):
        self.assertIs(at_rest([], MANY, no, [1]), False)
        self.assertIs(at_rest([], MANY, lambda value: len(value) < 2, [0, 0, 0]), False)
        # Only the last of its steps is one.
        self.assertIs(at_rest([], MANY, lambda value: value not in ([2, 3], [2, 1]), [2, 3]), False)

    def test_a_breach_without_such_a_step(self):
        self.assertIs(at_rest([], MANY, no, []), True)
        self.assertIs(at_rest([], MANY, lambda value: len(value) < 2, [0, 0]), True)
        # 3 is a breach of a lesser size, but no step leads there.
        self.assertIs(at_rest([], read_shape("whole(0,9)"), lambda value: value not in (3, 5), 5), True)

    def test_what_is_not_of_the_shape(self):
        for sample in SAMPLES:
            book, shape = read_sample(sample)
            for place, thing in enumerate(ANYTHING):
                if not fits(book, shape, thing):
                    for judge in (yes, no):
                        caught = self.refused(NoValue, lambda: at_rest(book, shape, judge, thing))
                        self.assertIs(caught.value, thing)

    def test_nothing_is_changed(self):
        book = read_book("bag=rising(bag)")
        value = [[], [[]]]
        judge = Asked()
        self.assertIs(at_rest(book, ("use", "bag"), judge, value), False)
        self.assertIs(at_rest(book, ("use", "bag"), no, value), False)
        lists = [id(each) for each in lists_within([value, judge.handed])]
        self.assertEqual(len(lists), len(set(lists)))
        self.assertEqual((book, value), (read_book("bag=rising(bag)"), [[], [[]]]))


if __name__ == "__main__":
    unittest.main()
