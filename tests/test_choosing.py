import itertools
import math
import unittest

from countgen.choosing import bag_at, bag_rank, bags_among, set_at, set_rank, sets_among

SIXTY = 10 ** 60 + 7
THREE_HUNDRED = 10 ** 300 - 1


def colexed(lists):
    return sorted(lists, key=lambda numbers: numbers[::-1])


class HowManyTest(unittest.TestCase):
    def test_sets_gone_through(self):
        for n in range(9):
            for m in range(11):
                self.assertEqual(sets_among(n, m), len(list(itertools.combinations(range(n), m))))

    def test_bags_gone_through(self):
        for n in range(6):
            for m in range(7):
                told = len(list(itertools.combinations_with_replacement(range(n), m)))
                self.assertEqual(bags_among(n, m), told, (n, m))

    def test_of_none(self):
        for n in (0, 1, 2, 40, SIXTY, THREE_HUNDRED):
            self.assertEqual(sets_among(n, 0), 1)
            self.assertEqual(bags_among(n, 0), 1)

    def test_among_none(self):
        for m in (1, 2, 40):
            self.assertEqual(sets_among(0, m), 0)
            self.assertEqual(bags_among(0, m), 0)

    def test_more_than_there_are(self):
        for n, m in ((1, 2), (3, 4), (3, 40), (39, 40)):
            self.assertEqual(sets_among(n, m), 0)
        self.assertEqual(bags_among(1, 40), 1)
        self.assertEqual(bags_among(2, 40), 41)

    def test_all_that_there_are(self):
        for n in range(41):
            self.assertEqual(sets_among(n, n), 1)

    def test_forty(self):
        for n in (40, 41, 60, 100, 10 ** 20, SIXTY, THREE_HUNDRED):
            self.assertEqual(sets_among(n, 40), math.comb(n, 40))
            self.assertEqual(bags_among(n, 40), math.comb(n + 39, 40))

    def test_great_numbers_are_told_exactly(self):
        for n in (SIXTY, 10 ** 59, THREE_HUNDRED):
            self.assertEqual(sets_among(n, 1), n)
            self.assertEqual(bags_among(n, 1), n)
            self.assertEqual(sets_among(n, 2), n * (n - 1) // 2)
            self.assertEqual(bags_among(n, 2), n * (n + 1) // 2)
            self.assertEqual(sets_among(n, 3), n * (n - 1) * (n - 2) // 6)
            self.assertIs(type(sets_among(n, 3)), int)


class RanksTest(unittest.TestCase):
    def test_sets_in_their_order(self):
        for m in range(6):
            for n in range(9):
                told = colexed([list(each) for each in itertools.combinations(range(n), m)])
                self.assertEqual([set_at(m, rank) for rank in range(len(told))], told)
                self.assertEqual([set_rank(each) for each in told], list(range(len(told))))

    def test_bags_in_their_order(self):
        for m in range(6):
            for n in range(6):
                told = colexed([list(each) for each in itertools.combinations_with_replacement(range(n), m)])
                self.assertEqual([bag_at(m, rank) for rank in range(len(told))], told)
                self.assertEqual([bag_rank(each) for each in told], list(range(len(told))))

    def test_those_below_a_number_come_ahead(self):
        for m in range(1, 7):
            for n in range(m, 10):
                self.assertLess(max(set_at(m, sets_among(n, m) - 1)), n)
                self.assertEqual(max(set_at(m, sets_among(n, m))), n)
                self.assertLess(max(bag_at(m, bags_among(n, m) - 1)), n)
                self.assertEqual(max(bag_at(m, bags_among(n, m))), n)

    def test_of_none(self):
        self.assertEqual((set_at(0, 0), bag_at(0, 0)), ([], []))
        self.assertEqual((set_rank([]), bag_rank([])), (0, 0))

    def test_of_one(self):
        for number in (0, 1, 2, 17, SIXTY, THREE_HUNDRED):
            self.assertEqual((set_at(1, number), bag_at(1, number)), ([number], [number]))
            self.assertEqual((set_rank([number]), bag_rank([number])), (number, number))

    def test_rank_none(self):
        for m in range(41):
            self.assertEqual(set_at(m, 0), list(range(m)))
            self.assertEqual(bag_at(m, 0), [0] * m)
            self.assertEqual(set_rank(list(range(m))), 0)
            self.assertEqual(bag_rank([0] * m), 0)

    def test_of_two_great_ones(self):
        for low in (0, 1, SIXTY, 10 ** 299):
            numbers = [low, THREE_HUNDRED]
            self.assertEqual(set_rank(numbers), low + math.comb(THREE_HUNDRED, 2))
            self.assertEqual(set_at(2, set_rank(numbers)), numbers)
            self.assertEqual(bag_rank(numbers), low + math.comb(THREE_HUNDRED + 1, 2))
            self.assertEqual(bag_at(2, bag_rank(numbers)), numbers)
        self.assertEqual(bag_at(2, bag_rank([THREE_HUNDRED] * 2)), [THREE_HUNDRED] * 2)

    def test_of_forty(self):
        for numbers in (list(range(3, 43)), [each * each for each in range(40)], [each * 10 ** 9 for each in range(40)]):
            self.assertEqual(set_at(40, set_rank(numbers)), numbers)
            self.assertEqual(bag_at(40, bag_rank(numbers)), numbers)
        bag = [5] * 20 + [10 ** 8] * 20
        self.assertEqual(bag_at(40, bag_rank(bag)), bag)

    def test_great_ranks_are_told_back(self):
        for m in (1, 2, 3, 7, 39, 40):
            for rank in (10 ** 60 - 1, 10 ** 60, THREE_HUNDRED):
                numbers = set_at(m, rank)
                self.assertEqual(len(numbers), m)
                self.assertEqual(numbers, sorted(set(numbers)))
                self.assertEqual(set_rank(numbers), rank)
                bag = bag_at(m, rank)
                self.assertEqual((len(bag), bag), (m, sorted(bag)))
                self.assertEqual(bag_rank(bag), rank)

    def test_the_next_one_has_the_next_rank(self):
        for numbers, following in (([0, 1, 9], [0, 2, 9]), ([7, 8, 9], [0, 1, 10]), ([3, 8, 9], [4, 8, 9]),
                                   ([0, SIXTY], [1, SIXTY]), ([SIXTY - 1, SIXTY], [0, SIXTY + 1])):
            self.assertEqual(set_rank(following), set_rank(numbers) + 1)
            self.assertEqual(set_at(len(numbers), set_rank(numbers) + 1), following)
        for numbers, following in (([0, 1, 9], [1, 1, 9]), ([9, 9, 9], [0, 0, 10]), ([8, 8, 9], [0, 9, 9]),
                                   ([SIXTY, SIXTY], [0, SIXTY + 1])):
            self.assertEqual(bag_rank(following), bag_rank(numbers) + 1)
            self.assertEqual(bag_at(len(numbers), bag_rank(numbers) + 1), following)


class ListsTest(unittest.TestCase):
    def test_lists_handed_in_stay(self):
        numbers = [1, 4, 9]
        set_rank(numbers)
        bag_rank(numbers)
        self.assertEqual(numbers, [1, 4, 9])

    def test_lists_told_are_the_askers_own(self):
        for told in (set_at, bag_at):
            for m in (0, 3):
                first = told(m, 0)
                self.assertIs(type(first), list)
                kept = list(first)
                first.append(99)
                self.assertEqual(told(m, 0), kept)


if __name__ == "__main__":
    unittest.main()
