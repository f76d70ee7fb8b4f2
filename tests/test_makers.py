import collections
import contextlib
import math
import unittest
from unittest import mock

from countgen import makers
from countgen.books import read_book
from countgen.lister import Lister, maker_for
from countgen.shapes import read_shape
from tests.plainly import SAMPLES, at_once, lists_within, plain_count, plain_values, read_sample

MOST_GONE_THROUGH = 250
GREATEST_GONE_THROUGH = 6
KINDS = ("Whole", "Text", "Row", "Many", "Choice", "Alike", "Pick", "Use")
TREES = "tree=pick(leaf:whole(0,3),node:row(tree,tree,tree))\nwood=rising(tree)\nhedge=unlike(wood)\nall=row(hedge,all)"


class MakersTest(unittest.TestCase):
    def test_counts_to_sixteen(self):
        with at_once():
            for sample in SAMPLES:
                book, shape = read_sample(sample)
                maker = maker_for(book, shape)
                for size in range(17):
                    self.assertEqual(maker.count_at(size), plain_count(tuple(book), shape, size), (sample, size))

    def test_values_gone_through(self):
        for sample in SAMPLES:
            book, shape = read_sample(sample)
            maker = maker_for(book, shape)
            for size in range(GREATEST_GONE_THROUGH + 1):
                if plain_count(tuple(book), shape, size) > MOST_GONE_THROUGH:
                    break
                values = plain_values(book, shape, size)
                self.assertEqual(maker.count_at(size), len(values), (sample, size))
                made = [maker.value_at(size, number) for number in range(len(values))]
                self.assertEqual(made, values, (sample, size))
                pairs = [maker.pair_of(value) for value in values]
                self.assertEqual(pairs, [(size, number) for number in range(len(values))])

    def test_great_sizes_are_told_back(self):
        with at_once():
            for sample in SAMPLES:
                book, shape = read_sample(sample)
                maker = maker_for(book, shape)
                for size in range(7, 17):
                    count = maker.count_at(size)
                    for number in (0, 1, count // 3, count // 2, count - 2, count - 1):
                        if not 0 <= number < count:
                            continue
                        value = maker.value_at(size, number)
                        # Another maker knows nothing of what this one was asked.
                        self.assertEqual(maker_for(book, shape).pair_of(value), (size, number))

    def test_each_count_is_reckoned_only_once(self):
        reckoned = collections.Counter()

        def counting(real):
            def counted(self, size):
                reckoned[self, size] += 1
                return real(self, size)
            return counted

        with contextlib.ExitStack() as stack:
            for kind in KINDS:
                chosen = getattr(makers, kind + "Maker")
                stack.enter_context(mock.patch.object(chosen, "reckoned", counting(chosen.reckoned)))
            for sample in (*SAMPLES, (TREES, "row(hedge,wood,tree,hedge,wood,tree)")):
                book, shape = read_sample(sample)
                maker = maker_for(book, shape)
                for size in (16, 3, 16, 0):
                    maker.count_at(size)
        self.assertEqual(set(reckoned.values()), {1})

    def test_no_list_stands_at_two_places(self):
        for text in ("alike(many(row()),3)", "rising(many(row()))", "many(alike(many(row()),2))",
                     "row(many(row()),many(row()))", "pick(a:alike(alike(many(row()),2),2))"):
            maker = maker_for([], read_shape(text))
            told = []
            for size in range(9):
                for number in range(maker.count_at(size)):
                    told.append(maker.value_at(size, number))
                    told.append(maker.value_at(size, number))
            lists = lists_within(told)
            self.assertEqual(len(lists), len({id(each) for each in lists}), text)

    def test_trees_and_lists_of_sixteen_are_answered_at_once(self):
        book = read_book(TREES)
        texts = ("tree", "wood", "hedge", "all", "many(many(many(many(text(ab)))))", "rising(rising(rising(text(ab))))",
                 "unlike(unlike(unlike(unlike(unlike(text(ab))))))", "row(row(row(hedge,wood),wood),tree,hedge)",
                 f"rising(whole(0,{10 ** 59}))")
        with at_once():
            for text in texts:
                shape = read_shape(text)
                maker = maker_for(book, shape)
                self.assertEqual(maker.count_at(16), plain_count(tuple(book), shape, 16), text)

    def test_catalan_trees(self):
        maker = maker_for(read_book("tree=pick(leaf:row(),node:row(tree,tree))"), ("use", "tree"))
        told = [maker.count_at(size) for size in range(17)]
        self.assertEqual(told, [0, 1, 0, 1, 0, 2, 0, 5, 0, 14, 0, 42, 0, 132, 0, 429, 0])

    def test_a_wide_row_of_rows(self):
        shape = ("text", "ab")
        for _ in range(6):
            shape = ("row", (shape,) * 8)
        with at_once():
            maker = maker_for([], shape)
            self.assertEqual(maker.count_at(1), 2 * 8 ** 6)
            self.assertEqual(maker.count_at(16), 2 ** 16 * math.comb(8 ** 6 + 15, 16))
            value = maker.value_at(16, maker.count_at(16) - 1)
            self.assertEqual(maker.pair_of(value), (16, maker.count_at(16) - 1))


class ListerTest(unittest.TestCase):
    def test_equal_shapes_have_one_maker(self):
        lister = Lister(read_book("a=row(text(x),b)\nb=many(text(x))"))
        first = lister.maker_of(read_shape("row(text(x),many(text(x)),a,b,b)"))
        self.assertIs(first.parts[0], first.parts[1].part)
        self.assertIs(first.parts[1], first.parts[3].named)
        self.assertIs(first.parts[2].named.parts[0], first.parts[0])
        self.assertIs(first.parts[3], first.parts[4])
        self.assertIs(lister.maker_of(read_shape("many(text(x))")), first.parts[1])

    def test_names_that_lead_back(self):
        maker = maker_for(read_book("a=pick(x:row(),y:b)\nb=many(a)"), ("use", "a"))
        self.assertIs(maker.named.parts[1].named.part, maker)

    def test_each_asking_has_makers_of_its_own(self):
        shape = read_shape("many(text(x))")
        self.assertIsNot(maker_for([], shape), maker_for([], shape))

    def test_the_book_stays(self):
        book = read_book(TREES)
        kept = list(book)
        maker_for(book, read_shape("row(all,tree)")).count_at(5)
        self.assertEqual(book, kept)


if __name__ == "__main__":
    unittest.main()
