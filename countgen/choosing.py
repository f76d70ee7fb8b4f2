"""Choosing: how many sets and bags there are, and sets and bags of numbers by rank."""


def sets_among(n, m):
    if m > n:
        return 0
    told = 1
    for taken in range(m):
        # What is told so far are the sets of taken + 1, so nothing is left over.
        told = told * (n - taken) // (taken + 1)
    return told


def bags_among(n, m):
    if m == 0:
        return 1
    if n == 0:
        return 0
    return sets_among(n + m - 1, m)


def set_rank(numbers):
    return sum([sets_among(number, place + 1) for place, number in enumerate(numbers)])


# Each number made greater by its place, a bag becomes a set, and the order stays.
def bag_rank(numbers):
    return set_rank([number + place for place, number in enumerate(numbers)])


def greatest_number(m, rank):
    within = m - 1
    beyond = m
    while sets_among(beyond, m) <= rank:
        within = beyond
        beyond = beyond * 2
    while beyond - within > 1:
        middle = (within + beyond) // 2
        if sets_among(middle, m) <= rank:
            within = middle
        else:
            beyond = middle
    return within


def set_at(m, rank):
    numbers = []
    left = rank
    for many in range(m, 0, -1):
        number = greatest_number(many, left)
        numbers.append(number)
        left -= sets_among(number, many)
    numbers.reverse()
    return numbers


def bag_at(m, rank):
    return [number - place for place, number in enumerate(set_at(m, rank))]
