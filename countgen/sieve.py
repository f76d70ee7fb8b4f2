"""Sieve: all values of a shape and size, those that a judge leaves of them, and judges of lists."""

from countgen.copies import copied
from countgen.errors import TooMany
from countgen.judging import fits
from countgen.lister import maker_for


def refuse_too_many(count, most):
    if count > most:
        raise TooMany(count, most)


def all_made(maker, size):
    return [maker.value_at(size, number) for number in range(maker.count_at(size))]


def all_values(book, shape, size, most=400):
    maker = maker_for(book, shape)
    refuse_too_many(maker.count_at(size), most)
    return all_made(maker, size)


# The judge is handed a copy, since it may change what it is handed.
def holds(judge, value):
    return judge(copied(value)) is True


def sieved(book, shape, size, judge, most=400):
    return [value for value in all_values(book, shape, size, most) if holds(judge, value)]


# Both judges keep a list of their own: the asker may change the book later.
def rising_judge(book, part):
    kept = list(book)
    return lambda things: fits(kept, ("rising", part), things)


def unlike_judge(book, part):
    kept = list(book)
    return lambda things: fits(kept, ("unlike", part), things)


def alike_judge(times):
    return lambda things: len(things) == times and all([thing == things[0] for thing in things])
