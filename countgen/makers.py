"""Makers: for each kind of shape one that counts its values, makes them by number and tells their numbers.

Makers are asked for a value only by a number below the count of its size, and for
the pair (size, number) only of values of their shape.
"""

from countgen.order import groups_by_size, sum_of_sizes
from countgen.tables import ChoiceTable, RowTable, first_number_of, found_in, ways_of


class Maker:
    def __init__(self):
        self.counts = []

    # Size after size, so that each count is reckoned only once, and of lesser sizes
    # that are there already: by uses it may lead back to this very maker.
    def count_at(self, size):
        while len(self.counts) <= size:
            self.counts.append(self.reckoned(len(self.counts)))
        return self.counts[size]


def least_distance(size):
    return (1 << size) >> 1


class WholeMaker(Maker):
    def __init__(self, low, high):
        Maker.__init__(self)
        self.low = low
        self.span = high - low

    def reckoned(self, size):
        greatest = min(self.span, (1 << size) - 1)
        return max(0, greatest - least_distance(size) + 1)

    def value_at(self, size, number):
        return self.low + least_distance(size) + number

    def pair_of(self, value):
        distance = value - self.low
        size = distance.bit_length()
        return (size, distance - least_distance(size))


class TextMaker(Maker):
    def __init__(self, signs):
        Maker.__init__(self)
        self.signs = signs

    def reckoned(self, size):
        return 1 if size == 0 else len(self.signs) * self.count_at(size - 1)

    def value_at(self, size, number):
        found = []
        left = number
        for each in range(size):
            found.append(self.signs[left % len(self.signs)])
            left = left // len(self.signs)
        found.reverse()
        return "".join(found)

    def pair_of(self, value):
        number = 0
        for sign in value:
            number = number * len(self.signs) + self.signs.find(sign)
        return (len(value), number)


class RowMaker(Maker):
    def __init__(self, parts):
        Maker.__init__(self)
        self.parts = parts
        self.table = RowTable(parts)

    def reckoned(self, size):
        return self.table.ways_at(0, size)

    def value_at(self, size, number):
        things = []
        left = size
        rest = number
        for place, part in enumerate(self.parts):
            found = found_in(self.table.blocks_at(place, left), rest)
            things.append(part.value_at(found.place, found.choice))
            left -= found.place
            rest = found.rest
        return tuple(things)

    def pair_of(self, value):
        pairs = [part.pair_of(thing) for part, thing in zip(self.parts, value)]
        size = sum_of_sizes(pairs)
        number = 0
        left = size
        for place, pair in enumerate(pairs):
            number += first_number_of(self.table.blocks_at(place, left), pair[0], pair[1])
            left -= pair[0]
        return (size, number)


class ManyMaker(Maker):
    def __init__(self, part):
        Maker.__init__(self)
        self.part = part

    # By the size of the first thing; what is left is 1 or more.
    def blocks_at(self, left):
        return [(self.part.count_at(first), self.count_at(left - 1 - first)) for first in range(left)]

    def reckoned(self, size):
        return 1 if size == 0 else ways_of(self.blocks_at(size))

    def value_at(self, size, number):
        things = []
        left = size
        rest = number
        while left > 0:
            found = found_in(self.blocks_at(left), rest)
            things.append(self.part.value_at(found.place, found.choice))
            left -= 1 + found.place
            rest = found.rest
        return things

    def pair_of(self, value):
        pairs = [self.part.pair_of(thing) for thing in value]
        size = len(pairs) + sum_of_sizes(pairs)
        number = 0
        left = size
        for pair in pairs:
            number += first_number_of(self.blocks_at(left), pair[0], pair[1])
            left -= 1 + pair[0]
        return (size, number)


# Of rising and of unlike ones: things chosen size by size, from the least size on.
class ChoiceMaker(Maker):
    def __init__(self, part, unlike):
        Maker.__init__(self)
        self.part = part
        self.table = ChoiceTable(part, unlike)

    def reckoned(self, size):
        return self.table.ways_at(0, size)

    def value_at(self, size, number):
        things = []
        left = size
        rest = number
        least = 0
        while left > 0:
            found = found_in(self.table.blocks_at(least, left), rest)
            for chosen in self.table.numbers_at(found.place, found.choice):
                things.append(self.part.value_at(least, chosen))
            left -= found.place * (least + 1)
            rest = found.rest
            least += 1
        return things

    def pair_of(self, value):
        pairs = [self.part.pair_of(thing) for thing in value]
        size = len(pairs) + sum_of_sizes(pairs)
        number = 0
        left = size
        for group in groups_by_size(pairs):
            least = group[0][0]
            rank = self.table.rank_of([pair[1] for pair in group])
            number += first_number_of(self.table.blocks_at(least, left), len(group), rank)
            left -= len(group) * (least + 1)
        return (size, number)


class AlikeMaker(Maker):
    def __init__(self, part, times):
        Maker.__init__(self)
        self.part = part
        self.times = times

    def reckoned(self, size):
        if size < self.times or size % self.times != 0:
            return 0
        return self.part.count_at(size // self.times - 1)

    def value_at(self, size, number):
        # Each made anew: one list may not stand at several places.
        return [self.part.value_at(size // self.times - 1, number) for each in range(self.times)]

    def pair_of(self, value):
        pair = self.part.pair_of(value[0])
        return (self.times * (1 + pair[0]), pair[1])


class PickMaker(Maker):
    def __init__(self, marks, parts):
        Maker.__init__(self)
        self.marks = marks
        self.parts = parts

    def blocks_at(self, size):
        return [(part.count_at(size), 1) for part in self.parts]

    def reckoned(self, size):
        return ways_of(self.blocks_at(size))

    def value_at(self, size, number):
        found = found_in(self.blocks_at(size), number)
        return (self.marks[found.place], self.parts[found.place].value_at(size, found.choice))

    def pair_of(self, value):
        place = self.marks.index(value[0])
        pair = self.parts[place].pair_of(value[1])
        return (pair[0], first_number_of(self.blocks_at(pair[0]), place, pair[1]))


class UseMaker(Maker):
    def __init__(self):
        Maker.__init__(self)
        # Given later, since the maker of the name's shape may lead back to this one.
        self.named = None

    def reckoned(self, size):
        return 0 if size == 0 else self.named.count_at(size - 1)

    def value_at(self, size, number):
        return self.named.value_at(size - 1, number)

    def pair_of(self, value):
        pair = self.named.pair_of(value)
        return (1 + pair[0], pair[1])
