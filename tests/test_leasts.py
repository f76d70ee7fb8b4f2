import unittest

from countgen.leasts import least_below
from countgen.lister import maker_for
from tests.plainly import SAMPLES, lists_within, plain_count, plain_values, read_sample


def least(sample, below):
    return least_below(maker_for(*read_sample(sample)), below)


class LeastsTest(unittest.TestCase):
    def test_samples(self):
        for sample in SAMPLES:
            book, shape = read_sample(sample)
            sizes = [size for size in range(17) if plain_count(tuple(book), shape, size) > 0]
            for below in range(18):
                told = least(sample, below)
                if sizes and sizes[0] < below:
                    self.assertEqual(told, plain_values(book, shape, sizes[0])[0], (sample, below))
                else:
                    self.assertIsNone(told, (sample, below))

    def test_below_none(self):
        for sample in SAMPLES:
            self.assertIsNone(least(sample, 0))

    def test_the_least_size_at_which_there_is_one(self):
        sample = ("", "alike(row(),6)")
        self.assertIsNone(least(sample, 6))
        self.assertEqual(least(sample, 7), [()] * 6)
        self.assertEqual(least(sample, 17), [()] * 6)
        deep = ("a=alike(alike(alike(text(x),2),2),2)", "row(a,a)")
        self.assertIsNone(least(deep, 17))

    def test_shapes_of_which_there_is_none(self):
        for shape in ("never", "row(text(a),never)", "alike(never,1)"):
            self.assertIsNone(least(("never=row(never)", shape), 17))
        self.assertEqual(least(("never=row(never)", "many(never)"), 17), [])
        self.assertEqual(least(("never=row(never)", "pick(a:never,b:whole(3,9))"), 17), ("b", 3))

    def test_lists_are_new_ones(self):
        maker = maker_for(*read_sample(("", "row(alike(many(row()),2),many(row()))")))
        lists = lists_within([least_below(maker, 9), least_below(maker, 9)])
        self.assertEqual(len(lists), len({id(each) for each in lists}))


if __name__ == "__main__":
    unittest.main()
