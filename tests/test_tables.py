import itertools
import unittest

from countgen.tables import ChoiceTable, RowTable, first_number_of, found_in, ways_of
from tests.plainly import ways_of_having


class FixedCounts:
    """Stands for a maker of which the counts are told."""

    def __init__(self, counts):
        self.told = counts

    def count_at(self, size):
        return self.told[size] if size < len(self.told) else 0


class BlocksTest(unittest.TestCase):
    def test_each_number_is_found_and_told_back(self):
        for blocks in ([(2, 3)], [(1, 1), (0, 5), (4, 0), (2, 3), (0, 0), (3, 1)], [(0, 0), (0, 1), (1, 4)]):
            expected = [
                (place, choice, rest) for place, (choices, rests) in enumerate(blocks)
                for choice in range(choices) for rest in range(rests)]
            self.assertEqual(ways_of(blocks), len(expected))
            for number, (place, choice, rest) in enumerate(expected):
                found = found_in(blocks, number)
                self.assertEqual((found.place, found.choice, found.rest), (place, choice, rest))
                self.assertEqual(first_number_of(blocks, place, choice) + rest, number)

    def test_no_blocks(self):
        self.assertEqual(ways_of([]), 0)


class RowTableTest(unittest.TestCase):
    def test_ways_gone_through(self):
        counts = ([1, 2, 0, 3], [0, 1, 5], [2], [1, 1, 1, 1, 1, 1])
        table = RowTable([FixedCounts(each) for each in counts])
        for place in range(5):
            for left in range(8):
                told = 0
                for sizes in itertools.product(range(8), repeat=4 - place):
                    if sum(sizes) == left:
                        product = 1
                        for each, size in zip(counts[place:], sizes):
                            product *= each[size] if size < len(each) else 0
                        told += product
                self.assertEqual(table.ways_at(place, left), told)

    def test_a_row_of_none(self):
        table = RowTable([])
        self.assertEqual([table.ways_at(0, left) for left in range(4)], [1, 0, 0, 0])

    def test_asked_in_any_order(self):
        parts = [FixedCounts([1, 2, 3]), FixedCounts([4, 5])]
        one = RowTable(parts)
        other = RowTable(parts)
        backwards = [one.ways_at(0, left) for left in range(6, -1, -1)]
        self.assertEqual(backwards[::-1], [other.ways_at(0, left) for left in range(7)])


class ChoiceTableTest(unittest.TestCase):
    def test_ways_gone_through(self):
        for counts in ([1, 2, 0, 3], [0, 0, 2, 1], [5], [], [1] * 9):
            for unlike in (False, True):
                table = ChoiceTable(FixedCounts(counts), unlike)
                for least in range(10):
                    for left in range(10):
                        told = 0
                        for ways in ways_of_having(left, least):
                            product = 1
                            for size, many in ways.items():
                                product *= self.gone_through(counts[size] if size < len(counts) else 0, many, unlike)
                            told += product
                        self.assertEqual(table.ways_at(least, left), told, (counts, unlike, least, left))

    def gone_through(self, among, many, unlike):
        chosen = itertools.combinations if unlike else itertools.combinations_with_replacement
        return len(list(chosen(range(among), many)))

    def test_ranks_are_those_of_bags_and_of_sets(self):
        bags = ChoiceTable(FixedCounts([3]), False)
        sets = ChoiceTable(FixedCounts([3]), True)
        self.assertEqual([bags.numbers_at(2, rank) for rank in range(4)], [[0, 0], [0, 1], [1, 1], [0, 2]])
        self.assertEqual([sets.numbers_at(2, rank) for rank in range(4)], [[0, 1], [0, 2], [1, 2], [0, 3]])
        self.assertEqual((bags.rank_of([1, 1]), sets.rank_of([1, 2])), (2, 2))
        self.assertEqual((bags.choices(0, 2), sets.choices(0, 2)), (6, 3))
        self.assertEqual((bags.choices(1, 2), sets.choices(1, 2)), (0, 0))
        self.assertEqual((bags.choices(1, 0), sets.choices(1, 0)), (1, 1))


if __name__ == "__main__":
    unittest.main()
