"""Tables: numbers laid out in blocks, and in how many ways what is left of a size can be had.

Blocks are pairs (choices, rest), one behind the other: each of the choices comes
with each way of having the rest, so a block takes up choices * rest numbers.
"""

from countgen.choosing import bag_at, bag_rank, bags_among, set_at, set_rank, sets_among


class Found:
    def __init__(self, place, choice, rest):
        self.place = place
        self.choice = choice
        self.rest = rest


def ways_of(blocks):
    return sum([choices * rest for choices, rest in blocks])


# Where a number below the ways of the blocks lies: in which block, by which choice
# of it, and what is left of the number for the rest.
def found_in(blocks, number):
    place = 0
    left = number
    while left >= blocks[place][0] * blocks[place][1]:
        left -= blocks[place][0] * blocks[place][1]
        place += 1
    rest = blocks[place][1]
    return Found(place, left // rest, left % rest)


def first_number_of(blocks, place, choice):
    return ways_of(blocks[:place]) + choice * blocks[place][1]


class RowTable:
    def __init__(self, parts):
        self.parts = parts
        # ways[place][left]: of the parts from that place on, to have that size together.
        self.ways = [[] for place in range(len(parts) + 1)]

    def ways_at(self, place, left):
        # The last place is filled first: a size that is being filled is not begun anew.
        while len(self.ways[-1]) <= left:
            self.add_size(len(self.ways[-1]))
        return self.ways[place][left]

    def add_size(self, size):
        self.ways[-1].append(1 if size == 0 else 0)
        for place in range(len(self.parts) - 1, -1, -1):
            self.ways[place].append(ways_of(self.blocks_at(place, size)))

    # By the size of the thing at the place.
    def blocks_at(self, place, left):
        part = self.parts[place]
        return [(part.count_at(first), self.ways_at(place + 1, left - first)) for first in range(left + 1)]


class ChoiceTable:
    def __init__(self, part, unlike):
        self.part = part
        self.unlike = unlike
        # rows[left][least]: ways of things of that least size and greater ones, each
        # with 1 for itself, to come to what is left.
        self.rows = []

    def choices(self, size, many):
        among = self.part.count_at(size)
        return sets_among(among, many) if self.unlike else bags_among(among, many)

    def rank_of(self, numbers):
        return set_rank(numbers) if self.unlike else bag_rank(numbers)

    def numbers_at(self, many, rank):
        return set_at(many, rank) if self.unlike else bag_at(many, rank)

    def ways_at(self, least, left):
        if left == 0:
            return 1
        if least >= left:
            return 0
        while len(self.rows) <= left:
            self.add_row(len(self.rows))
        return self.rows[left][least]

    def add_row(self, left):
        row = [0] * left
        # Ahead of the filling, which asks for what it has filled so far.
        self.rows.append(row)
        for least in range(left - 1, -1, -1):
            row[least] = ways_of(self.blocks_at(least, left))

    # By how many things of the least size there are.
    def blocks_at(self, least, left):
        taken = least + 1
        return [
            (self.choices(least, many), self.ways_at(least + 1, left - many * taken))
            for many in range(left // taken + 1)]
