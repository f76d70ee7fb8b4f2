"""Steps: the values of a lesser size that are told of a value to shrink it."""

from countgen.copies import copied
from countgen.judging import fits, refuse_no_value, size_of
from countgen.leasts import least_below
from countgen.lister import Lister
from countgen.order import branch_place, things_within


def whole_steps(low, value):
    steps = []
    distance = value - low
    while distance > 0:
        distance = distance // 2
        steps.append(low + distance)
    return steps[::-1]


def without_each(things):
    return [things[:place] + things[place + 1:] for place in range(len(things))]


# Inner steps are told thing by thing: the steps of the first one first.
def with_each_step(things, inner):
    changed = []
    for place, steps in enumerate(inner):
        changed.extend([things[:place] + [step] + things[place + 1:] for step in steps])
    return changed


# Things within a value that stand at this use, each ahead of those within it.
def things_at_use(book, use, shape, value):
    found = []
    for part, thing in things_within(book, shape, value):
        if part == use:
            found.append(thing)
        found.extend(things_at_use(book, use, part, thing))
    return found


class Stepper:
    def __init__(self, book):
        self.book = book
        self.lister = Lister(book)

    # Like weighing, it calls itself once for each shape within another.
    def steps_from(self, shape, value):
        inner = []
        for part, thing in things_within(self.book, shape, value):
            inner.append(self.steps_from(part, thing))
        return self.steps_by(shape, value, inner)

    def steps_by(self, shape, value, inner):
        kind = shape[0]
        if kind == "whole":
            return whole_steps(shape[1], value)
        if kind == "text":
            return without_each(value)
        if kind == "row":
            return [tuple(things) for things in with_each_step(list(value), inner)]
        if kind == "alike":
            return [[step] * shape[2] for step in inner[0]]
        if kind == "pick":
            return self.leasts_ahead(shape, value) + [(value[0], step) for step in inner[0]]
        if kind == "use":
            return things_at_use(self.book, shape, shape, value) + inner[0]
        steps = without_each(value) + with_each_step(value, inner)
        return [step for step in steps if kind == "many" or fits(self.book, shape, step)]

    def leasts_ahead(self, shape, value):
        below = size_of(self.book, shape, value)
        steps = []
        for mark, part in shape[1][:branch_place(shape[1], value[0])]:
            least = least_below(self.lister.maker_of(part), below)
            if least is not None:
                steps.append((mark, least))
        return steps


# Steps share lists with the value and with one another until they are copied.
def steps_of(book, shape, value):
    refuse_no_value(book, shape, value)
    return copied(Stepper(book).steps_from(shape, value))
