import copy
import unittest

from countgen.books import read_book
from countgen.counts import counted
from countgen.errors import NoNumber, NoValue
from countgen.judging import compared, fits, size_of
from countgen.shapes import read_shape
from countgen.telling import least_value, number_of, value_at
from tests.plainly import SAMPLES, at_once, lists_within, plain_values, read_sample
from tests.test_judging import ANYTHING

TREE = read_book("tree=pick(leaf:whole(0,1),node:row(tree,tree))")


class TellingCase(unittest.TestCase):
    def all_told(self, book, shape, size):
        return [value_at(book, shape, size, number) for number in range(counted(book, shape, size))]

    def told(self, text, size, values, book=()):
        with self.subTest(shape=text, size=size):
            self.assertEqual(self.all_told(list(book), read_shape(text), size), values)
            pairs = [number_of(list(book), read_shape(text), value) for value in values]
            self.assertEqual(pairs, [(size, number) for number in range(len(values))])

    def refused(self, book, shape, size, number, count):
        with self.assertRaises(NoNumber) as caught:
            value_at(book, shape, size, number)
        self.assertEqual((caught.exception.number, caught.exception.count), (number, count))


class EachKindTest(TellingCase):
    def test_wholes(self):
        self.told("whole(-3,10)", 0, [-3])
        self.told("whole(-3,10)", 1, [-2])
        self.told("whole(-3,10)", 2, [-1, 0])
        self.told("whole(-3,10)", 3, [1, 2, 3, 4])
        self.told("whole(-3,10)", 4, [5, 6, 7, 8, 9, 10])
        self.told("whole(-3,10)", 5, [])
        great = 10 ** 60 - 1
        self.assertEqual(value_at([], ("whole", -great, great), 16, 2 ** 15 - 1), -great + 2 ** 16 - 1)

    def test_texts(self):
        self.told("text(ba)", 0, [""])
        self.told("text(ba)", 1, ["b", "a"])
        self.told("text(ba)", 2, ["bb", "ba", "ab", "aa"])
        self.assertEqual(number_of([], read_shape("text(ba)"), "a" * 16), (16, 2 ** 16 - 1))

    def test_rows(self):
        self.told("row()", 0, [()])
        self.told("row()", 1, [])
        self.told("row(whole(0,9),text(ab))", 2, [(0, "aa"), (0, "ab"), (0, "ba"), (0, "bb"), (1, "a"), (1, "b"),
                                                  (2, ""), (3, "")])

    def test_manys(self):
        self.told("many(whole(0,9))", 0, [[]])
        self.told("many(whole(0,9))", 3, [[0, 0, 0], [0, 1], [1, 0], [2], [3]])

    def test_picks(self):
        self.told("pick(b:whole(0,9),a:text(ab))", 0, [("b", 0), ("a", "")])
        self.told("pick(b:whole(0,9),a:text(ab))", 1, [("b", 1), ("a", "a"), ("a", "b")])

    def test_uses(self):
        leaf = ("leaf", 0)
        other = ("leaf", 1)
        self.told("tree", 0, [], TREE)
        self.told("tree", 1, [leaf], TREE)
        self.told("tree", 2, [other], TREE)
        self.told("tree", 4, [("node", (leaf, other)), ("node", (other, leaf))], TREE)

    def test_alike_ones(self):
        self.told("alike(text(ba),2)", 4, [["b", "b"], ["a", "a"]])
        self.told("alike(text(ba),2)", 3, [])
        self.told("alike(text(ba),2)", 0, [])
        self.told("alike(many(row()),3)", 6, [[[()], [()], [()]]])

    def test_rising_ones(self):
        self.told("rising(text(ab))", 3, [
            ["aa"], ["ab"], ["ba"], ["bb"], ["", "a"], ["", "b"], ["", "", ""]])
        self.told("rising(text(ab))", 4, [
            [text] for text in ("aaa", "aab", "aba", "abb", "baa", "bab", "bba", "bbb")] + [
            ["a", "a"], ["a", "b"], ["b", "b"], ["", "aa"], ["", "ab"], ["", "ba"], ["", "bb"],
            ["", "", "a"], ["", "", "b"], ["", "", "", ""]])

    def test_unlike_ones(self):
        self.told("unlike(whole(0,9))", 5, [[8], [9], [1, 2], [1, 3], [0, 4], [0, 5], [0, 6], [0, 7]])
        self.told("unlike(pick(a:row(),b:row(),c:row(),d:row()))", 2, [
            [(one, ()), (other, ())] for one, other in ("ab", "ac", "bc", "ad", "bd", "cd")])


class OneByOneTest(TellingCase):
    def test_samples_in_the_order_that_compared_tells(self):
        for sample in SAMPLES:
            book, shape = read_sample(sample)
            for size in range(6):
                if counted(book, shape, size) > 120:
                    continue
                values = self.all_told(book, shape, size)
                for one, other in zip(values, values[1:]):
                    self.assertEqual(compared(book, shape, one, other), -1, (sample, one, other))
                for number, value in enumerate(values):
                    self.assertIs(fits(book, shape, value), True)
                    self.assertEqual(size_of(book, shape, value), size)
                    self.assertEqual(number_of(book, shape, value), (size, number))
                self.assertEqual(values, plain_values(book, shape, size), (sample, size))

    def test_samples_of_great_sizes(self):
        with at_once():
            for sample in SAMPLES:
                book, shape = read_sample(sample)
                for size in (9, 12, 16):
                    count = counted(book, shape, size)
                    numbers = [each for each in (0, 1, count // 7, count // 2, count - 1) if 0 <= each < count]
                    values = [value_at(book, shape, size, number) for number in numbers]
                    self.assertEqual([number_of(book, shape, each) for each in values], [(size, n) for n in numbers])
                    for one, other in zip(range(len(values)), range(1, len(values))):
                        expected = (numbers[one] > numbers[other]) - (numbers[one] < numbers[other])
                        self.assertEqual(compared(book, shape, values[one], values[other]), expected)

    def test_deep_values(self):
        deep = read_book("a=row(row(row(pick(x:row(pick(x:a,y:end))))))\nend=row()")
        self.assertEqual(counted(deep, ("use", "a"), 16), 1)
        value = value_at(deep, ("use", "a"), 16, 0)
        self.assertEqual(number_of(deep, ("use", "a"), value), (16, 0))


class RefusedTest(TellingCase):
    def test_numbers_below_none_and_not_below_the_count(self):
        for sample in SAMPLES:
            book, shape = read_sample(sample)
            for size in (0, 1, 2, 7, 16):
                count = counted(book, shape, size)
                for number in (-1, -10 ** 299, count, count + 1, 10 ** 299):
                    self.refused(book, shape, size, number, count)

    def test_sizes_of_which_there_is_none(self):
        self.refused([], read_shape("row()"), 1, 0, 0)
        self.refused(TREE, ("use", "tree"), 0, 0, 0)

    def test_number_of_anything(self):
        for sample in SAMPLES:
            book, shape = read_sample(sample)
            for thing in ANYTHING:
                if fits(book, shape, thing):
                    if size_of(book, shape, thing) <= 16:
                        size, number = number_of(book, shape, thing)
                        self.assertEqual(value_at(book, shape, size, number), thing)
                    continue
                with self.assertRaises(NoValue) as caught:
                    number_of(book, shape, thing)
                self.assertIs(caught.exception.value, thing)

    def test_kinds_of_what_is_told(self):
        told = number_of([], read_shape("text(ab)"), "ab")
        self.assertIs(type(told), tuple)
        self.assertEqual([type(each) for each in told], [int, int])


class LeastValueTest(TellingCase):
    def test_below(self):
        for text, least, size in (("whole(-3,10)", -3, 0), ("text(ab)", "", 0), ("many(row())", [], 0), ("row()", (), 0),
                                  ("alike(text(ba),2)", ["", ""], 2), ("alike(alike(row(),3),4)", [[()] * 3] * 4, 16),
                                  ("pick(b:alike(row(),6),a:alike(text(xy),5))", ("a", [""] * 5), 5)):
            for below in range(18):
                told = least_value([], read_shape(text), below)
                self.assertEqual(told, least if below > size else None, (text, below))

    def test_uses(self):
        self.assertIsNone(least_value(TREE, ("use", "tree"), 0))
        self.assertIsNone(least_value(TREE, ("use", "tree"), 1))
        self.assertEqual(least_value(TREE, ("use", "tree"), 2), ("leaf", 0))
        self.assertEqual(least_value(TREE, ("use", "tree"), 17), ("leaf", 0))

    def test_none_below_seventeen(self):
        never = read_book("never=row(never)")
        for text in ("never", "row(never)", "alike(never,2)", "pick(a:never)", "alike(alike(alike(row(),6),2),2)"):
            self.assertIsNone(least_value(never, read_shape(text), 17))


class ListsTest(TellingCase):
    def test_no_list_stands_at_two_places(self):
        shape = read_shape("row(alike(many(row()),3),rising(alike(many(row()),2)),many(row()))")
        for size in range(3, 13):
            for number in range(0, counted([], shape, size), 3):
                lists = lists_within([value_at([], shape, size, number), value_at([], shape, size, number)])
                self.assertEqual(len(lists), len({id(each) for each in lists}))
        lists = lists_within([least_value([], shape, 17), least_value([], shape, 17)])
        self.assertEqual(len(lists), len({id(each) for each in lists}))

    def test_changing_them_changes_no_later_answer(self):
        shape = read_shape("rising(many(whole(0,1)))")
        first = value_at([], shape, 5, 7)
        kept = copy.deepcopy(first)
        first[0].append(5)
        first.append([])
        self.assertEqual(value_at([], shape, 5, 7), kept)
        least = least_value([], shape, 3)
        least.append(1)
        self.assertEqual(least_value([], shape, 3), [])

    def test_what_is_handed_in_stays(self):
        book = read_book("a=rising(b)\nb=many(whole(0,9))")
        value = ([[], [3, 1]], [[0]])
        kept = copy.deepcopy((book, value))
        shape = read_shape("row(a,a)")
        pair = number_of(book, shape, value)
        told = value_at(book, shape, *pair)
        self.assertEqual(told, value)
        self.assertEqual({id(each) for each in lists_within(told)} & {id(each) for each in lists_within(value)}, set())
        least_value(book, shape, 17)
        self.assertEqual((book, value), kept)


if __name__ == "__main__":
    unittest.main()
