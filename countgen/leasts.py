"""Leasts: the least value that a maker can make."""


def least_below(maker, below):
    for size in range(below):
        if maker.count_at(size) > 0:
            return maker.value_at(size, 0)
    return None
