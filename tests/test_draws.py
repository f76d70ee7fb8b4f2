import collections
import unittest

from countgen.draws import all_fair, fair
from countgen.errors import NoDraw


class FairTest(unittest.TestCase):
    def refused(self, numbers, base, count):
        with self.subTest(numbers=numbers, base=base, count=count), self.assertRaises(NoDraw):
            fair(numbers, base, count)

    def test_a_base_that_the_count_divides(self):
        for number in range(12):
            self.assertEqual(fair([number], 12, 4), (1, number % 4))
            self.assertEqual(fair([number], 12, 12), (1, number))
            self.assertEqual(fair([number], 12, 1), (1, 0))

    def test_a_base_that_the_count_does_not_divide(self):
        for number in range(8):
            self.assertEqual(fair([number], 10, 4), (1, number % 4))
        for number in (8, 9):
            self.refused([number], 10, 4)

    def test_the_first_below_the_edge(self):
        self.assertEqual(fair([9, 8, 7, 3], 10, 4), (3, 3))
        self.assertEqual(fair([8, 6, 9], 10, 4), (2, 2))
        self.assertEqual(fair([0, 1], 10, 4), (1, 0))
        self.assertEqual(fair([9] * 1999 + [5], 10, 4), (2000, 1))

    def test_just_below_the_edge_and_at_it(self):
        base = 10 ** 300 - 1
        count = 10 ** 60 + 9
        edge = base - base % count
        self.assertEqual(fair([edge - 1], base, count), (1, count - 1))
        self.assertEqual(fair([edge, base - 1, edge - count], base, count), (3, 0))
        self.refused([edge], base, count)

    def test_none_below_the_edge(self):
        self.refused([], 10, 4)
        self.refused([], 10, 1)
        self.refused([9, 8, 9, 9], 10, 4)

    def test_counts_below_one(self):
        for count in (0, -1, -4, -10 ** 60):
            self.refused([0, 1, 2], 10, count)
            self.refused([], 10, count)

    def test_counts_beyond_the_base(self):
        self.refused([0, 1, 2], 10, 11)
        self.refused([0], 1, 2)
        self.refused([0] * 5, 10, 10 ** 60)
        self.assertEqual(fair([3], 10, 10), (1, 3))
        self.assertEqual(fair([0], 1, 1), (1, 0))

    def test_just_as_many_numbers_lead_to_each(self):
        for base in range(1, 25):
            for count in range(1, base + 1):
                drawn = collections.Counter()
                for number in range(base):
                    try:
                        drawn[fair([number], base, count)[1]] += 1
                    except NoDraw:
                        self.assertGreaterEqual(number, base - base % count)
                self.assertEqual(drawn, {each: base // count for each in range(count)})

    def test_what_is_told_is_a_pair_and_the_list_stays(self):
        numbers = [9, 5]
        told = fair(numbers, 10, 4)
        self.assertIs(type(told), tuple)
        self.assertEqual([type(each) for each in told], [int, int])
        self.assertEqual(numbers, [9, 5])


class AllFairTest(unittest.TestCase):
    def test_each_that_is_below_the_edge(self):
        self.assertEqual(all_fair([9, 8, 7, 3, 8, 0], 10, 4), [3, 3, 0])
        self.assertEqual(all_fair([9, 8, 7, 3, 8, 0], 10, 10), [9, 8, 7, 3, 8, 0])
        self.assertEqual(all_fair([9, 8], 10, 4), [])
        self.assertEqual(all_fair([], 10, 4), [])
        self.assertEqual(all_fair([0, 1], 10, 11), [])

    def test_counts_below_one(self):
        for count in (0, -1):
            for numbers in ([], [0]):
                with self.assertRaises(NoDraw):
                    all_fair(numbers, 10, count)


if __name__ == "__main__":
    unittest.main()
