"""Judging: whether a value is of a shape, its size, and which of two comes ahead."""

from countgen.errors import NoValue
from countgen.order import weighed


def key_or_refusal(book, shape, value):
    key = weighed(book, shape, value)
    if key is None:
        raise NoValue(value)
    return key


def fits(book, shape, value):
    return weighed(book, shape, value) is not None


def refuse_no_value(book, shape, value):
    if not fits(book, shape, value):
        raise NoValue(value)


def size_of(book, shape, value):
    return key_or_refusal(book, shape, value)[0]


def compared(book, shape, one, other):
    first = key_or_refusal(book, shape, one)
    second = key_or_refusal(book, shape, other)
    if first == second:
        return 0
    return -1 if first < second else 1
