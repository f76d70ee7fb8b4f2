import copy
import unittest

from countgen.books import read_book
from countgen.counts import counted
from countgen.errors import TooMany
from countgen.shapes import read_shape
from countgen.sieve import alike_judge, all_values, rising_judge, sieved, unlike_judge
from tests.plainly import SAMPLES, at_once, lists_within, plain_values, read_sample

TWENTY = "abcdefghijklmnopqrst"
PARTS = (
    ("", "whole(0,5)"), ("", "text(ba)"), ("", "row()"), ("", "many(row())"), ("", "pick(b:whole(0,1),a:row())"),
    ("", "rising(text(a))"), ("", "many(whole(0,1))"), ("tree=pick(leaf:row(),node:many(tree))", "tree"),
    ("never=row(never)", "never"), ("", "alike(text(ab),2)"))


def yes(value):
    return True


def no(value):
    return False


class Asked:
    """A judge that keeps what it was handed."""

    def __init__(self):
        self.handed = []

    def __call__(self, value):
        self.handed.append(value)
        return True


class AllValuesTest(unittest.TestCase):
    def refused(self, count, most, asked):
        with self.assertRaises(TooMany) as caught:
            asked()
        self.assertEqual((caught.exception.count, caught.exception.most), (count, most))

    def test_samples(self):
        for sample in SAMPLES:
            book, shape = read_sample(sample)
            for size in range(6):
                count = counted(book, shape, size)
                if count <= 150:
                    values = plain_values(book, shape, size)
                    self.assertEqual(all_values(book, shape, size), values, (sample, size))
                    self.assertEqual(all_values(book, shape, size, count), values)
                    self.assertEqual(sieved(book, shape, size, yes, count), values)
                if count > 0:
                    self.refused(count, count - 1, lambda: all_values(book, shape, size, count - 1))
                    self.refused(count, count - 1, lambda: sieved(book, shape, size, yes, count - 1))

    def test_most_none(self):
        shape = read_shape("row()")
        self.assertEqual(all_values([], shape, 1, 0), [])
        self.assertEqual(sieved([], shape, 1, yes, 0), [])
        self.refused(1, 0, lambda: all_values([], shape, 0, 0))
        self.refused(1, 0, lambda: sieved([], shape, 0, yes, 0))

    def test_the_most_by_default(self):
        shape = read_shape(f"text({TWENTY})")
        self.assertEqual(len(all_values([], shape, 2)), 400)
        self.assertEqual(len(sieved([], shape, 2, yes)), 400)
        more = read_shape(f"pick(a:text({TWENTY}),b:alike(text(a),1))")
        self.refused(401, 400, lambda: all_values([], more, 2))
        self.refused(401, 400, lambda: sieved([], more, 2, yes))
        self.assertEqual(len(all_values([], more, 2, most=401)), 401)
        self.assertEqual(len(sieved([], more, 2, yes, most=401)), 401)

    def test_two_thousand(self):
        shape = read_shape(f"whole(0,{2 ** 10 + 1999})")
        self.assertEqual(all_values([], shape, 11, 2000), list(range(2 ** 10, 2 ** 11)))

    def test_the_whole_count_is_told_before_any_is_made(self):
        shape = read_shape(f"many(text({TWENTY}))")
        judge = Asked()
        with at_once():
            for most in (0, 1, 400, 2000):
                self.refused(21 ** 15, most, lambda: all_values([], shape, 16, most))
                self.refused(21 ** 15, most, lambda: sieved([], shape, 16, judge, most))
        self.assertEqual(judge.handed, [])

    def test_lists_are_the_askers_own(self):
        shape = read_shape("many(alike(many(row()),2))")
        first = all_values([], shape, 6)
        kept = copy.deepcopy(first)
        lists = lists_within([first, all_values([], shape, 6), sieved([], shape, 6, yes)])
        self.assertEqual(len(lists), len({id(each) for each in lists}))
        for each in lists_within(first):
            each.append(7)
        self.assertEqual(all_values([], shape, 6), kept)


class SievedTest(unittest.TestCase):
    def test_judges_of_all_and_of_none(self):
        shape = read_shape("many(whole(0,1))")
        self.assertEqual(sieved([], shape, 4, yes), all_values([], shape, 4))
        self.assertEqual(sieved([], shape, 4, no), [])

    def test_by_their_numbers(self):
        told = sieved([], read_shape("whole(0,31)"), 5, lambda value: value % 5 == 0)
        self.assertEqual(told, [20, 25, 30])

    def test_only_the_answer_true_leaves_a_value(self):
        shape = read_shape("text(ab)")
        for answer in (1, "True", [0], None, 0):
            self.assertEqual(sieved([], shape, 2, lambda value: answer), [])

    def test_each_value_is_asked_once_in_its_turn(self):
        judge = Asked()
        shape = read_shape("rising(text(ab))")
        told = sieved([], shape, 4, judge)
        self.assertEqual(judge.handed, told)
        self.assertEqual(told, all_values([], shape, 4))

    def test_the_judge_is_handed_a_value_of_its_own(self):
        judge = Asked()
        told = sieved([], read_shape("row(many(row()),alike(many(row()),2))"), 7, judge)
        lists = lists_within([told, judge.handed])
        self.assertEqual(len(lists), len({id(each) for each in lists}))

    def test_judges_that_change_what_they_are_handed(self):
        shape = read_shape("row(many(many(row())),whole(0,1))")
        expected = all_values([], shape, 5)

        def changing(value):
            for each in lists_within(value):
                each.clear()
            return True

        self.assertEqual(sieved([], shape, 5, changing), expected)
        self.assertEqual(all_values([], shape, 5), expected)

    def test_judges_that_change_what_they_were_handed_before(self):
        handed = []

        def changing(value):
            handed.append(value)
            for each in handed:
                each.append(7)
            return True

        shape = read_shape("many(row())")
        self.assertEqual(sieved([], shape, 3, changing), [[()] * 3])

    def test_too_many_ahead_of_the_first_asking(self):
        judge = Asked()
        with self.assertRaises(TooMany):
            sieved([], read_shape("text(ab)"), 9, judge)
        with self.assertRaises(TooMany):
            sieved([], read_shape("text(ab)"), 2, judge, 3)
        self.assertEqual(judge.handed, [])

    def test_what_is_handed_in_stays(self):
        book = read_book("a=rising(b)\nb=many(whole(0,9))")
        kept = list(book)
        sieved(book, ("use", "a"), 4, rising_judge(book, ("use", "b")))
        self.assertEqual(book, kept)


class JudgesTest(unittest.TestCase):
    def left(self, book, part, size, judge):
        return sieved(book, ("many", part), size, judge, 2000)

    def test_they_leave_just_the_values_of_the_three_kinds(self):
        for sample in PARTS:
            book, part = read_sample(sample)
            for size in range(8):
                if counted(book, ("many", part), size) > 150:
                    continue
                rising = self.left(book, part, size, rising_judge(book, part))
                unlike = self.left(book, part, size, unlike_judge(book, part))
                self.same(book, ("rising", part), size, rising)
                self.same(book, ("unlike", part), size, unlike)
                for times in range(1, 7):
                    self.same(book, ("alike", part, times), size, self.left(book, part, size, alike_judge(times)))

    def same(self, book, shape, size, left):
        self.assertEqual(len(left), counted(book, shape, size), (shape, size))
        told = all_values(book, shape, size, 2000)
        for value in told:
            self.assertIn(value, left)

    def test_rising(self):
        judge = rising_judge([], read_shape("text(ba)"))
        for things in ([], ["a"], ["", ""], ["b", "a", "bb"], ["a", "a"]):
            self.assertIs(judge(things), True)
        for things in (["a", "b"], ["a", ""], ["", "bb", "a"]):
            self.assertIs(judge(things), False)

    def test_unlike(self):
        judge = unlike_judge([], read_shape("text(ba)"))
        for things in ([], ["a"], ["b", "a", "bb"], ["", "a"]):
            self.assertIs(judge(things), True)
        for things in (["a", "b"], ["a", "a"], ["", "bb", "bb"], ["", ""]):
            self.assertIs(judge(things), False)

    def test_alike(self):
        judge = alike_judge(3)
        for things in ([0, 0, 0], ["a"] * 3, [[[]], [[]], [[]]], [("a", [1]) for _ in range(3)]):
            self.assertIs(judge(things), True)
        for things in ([], [0], [0, 0], [0] * 4, [0, 0, 1], [1, 0, 0], [0, 1, 0], [[], [], [[]]]):
            self.assertIs(judge(things), False)
        self.assertIs(alike_judge(1)([7]), True)
        self.assertIs(alike_judge(1)([]), False)
        self.assertIs(alike_judge(1)([7, 7]), False)

    def test_a_book_changed_behind_the_making_of_a_judge(self):
        for made, after in ((rising_judge, True), (unlike_judge, True)):
            book = read_book("sign=text(ab)\nmore=sign")
            judge = made(book, ("use", "more"))
            book[0] = ("sign", ("text", "ba"))
            self.assertIs(judge(["a", "b"]), after)
            self.assertIs(judge(["b", "a"]), not after)
            book.clear()
            self.assertIs(judge(["a", "b"]), after)
            self.assertIs(judge(["b", "a"]), not after)

    def test_judges_change_nothing(self):
        things = [["b"], ["a", ""]]
        kept = copy.deepcopy(things)
        part = read_shape("many(text(ab))")
        for judge in (rising_judge([], part), unlike_judge([], part), alike_judge(2)):
            self.assertIn(judge(things), (True, False))
            self.assertEqual(things, kept)

    def test_judges_stand_beside_one_another(self):
        part = read_shape("whole(0,9)")
        first = alike_judge(1)
        second = alike_judge(2)
        self.assertEqual((first([3]), second([3]), first([3, 3]), second([3, 3])), (True, False, False, True))
        ups = rising_judge([], part)
        downs = rising_judge([], ("text", "ba"))
        self.assertEqual((ups([1, 2]), downs(["b", "a"]), ups([2, 1])), (True, True, False))


if __name__ == "__main__":
    unittest.main()
