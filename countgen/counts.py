"""Counts: how many values of a shape there are at a size."""

from countgen.lister import maker_for


def counted(book, shape, size):
    return maker_for(book, shape).count_at(size)


def counts_to(book, shape, size):
    maker = maker_for(book, shape)
    return [maker.count_at(each) for each in range(size + 1)]
