"""Telling: the value at a size and a number, the number of a value, and the least value."""

from countgen.errors import NoNumber
from countgen.judging import refuse_no_value
from countgen.leasts import least_below
from countgen.lister import maker_for


def value_at(book, shape, size, number):
    maker = maker_for(book, shape)
    count = maker.count_at(size)
    if not 0 <= number < count:
        raise NoNumber(number, count)
    return maker.value_at(size, number)


def number_of(book, shape, value):
    refuse_no_value(book, shape, value)
    return maker_for(book, shape).pair_of(value)


def least_value(book, shape, below):
    return least_below(maker_for(book, shape), below)
