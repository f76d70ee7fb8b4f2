"""Shrinking: from a breach by its steps to breaches of a lesser size, until none is left."""

from countgen.copies import copied
from countgen.errors import NoBreach
from countgen.judging import refuse_no_value
from countgen.sieve import holds
from countgen.steps import steps_of


# None is no value of any shape, so it may stand for there being no breach.
def first_breach(judge, values):
    for value in values:
        if not holds(judge, value):
            return value
    return None


# The function is asked for the values that may come next behind a breach.
def shrunk_by(judge, value, values_next):
    breaches = []
    reached = first_breach(judge, [copied(value)])
    if reached is None:
        raise NoBreach("the judge answers True of this value")
    while reached is not None:
        breaches.append(reached)
        reached = first_breach(judge, values_next(reached))
    return breaches


def shrunk(book, shape, judge, value):
    refuse_no_value(book, shape, value)
    return shrunk_by(judge, value, lambda breach: steps_of(book, shape, breach))


def at_rest(book, shape, judge, value):
    refuse_no_value(book, shape, value)
    return not holds(judge, value) and first_breach(judge, steps_of(book, shape, value)) is None
