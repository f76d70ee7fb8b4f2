"""Tries: a judge asked of all values to a size, or of some that are drawn."""

from countgen.draws import all_fair
from countgen.lister import maker_for
from countgen.sieve import all_made, holds, refuse_too_many


def tried_on(judge, values):
    for tries, value in enumerate(values, start=1):
        if not holds(judge, value):
            return ("breach", tries, value)
    return ("held", len(values), None)


def tried(book, shape, judge, size, most=400):
    maker = maker_for(book, shape)
    sizes = list(range(size + 1))
    refuse_too_many(sum([maker.count_at(each) for each in sizes]), most)
    values = []
    for each in sizes:
        values.extend(all_made(maker, each))
    return tried_on(judge, values)


def drawn_values(book, shape, size, numbers, base):
    maker = maker_for(book, shape)
    return [maker.value_at(size, number) for number in all_fair(numbers, base, maker.count_at(size))]


def tried_drawn(book, shape, judge, size, numbers, base):
    return tried_on(judge, drawn_values(book, shape, size, numbers, base))
