"""Draws: numbers drawn without favour out of a list of numbers."""

from countgen.errors import NoDraw


# Numbers from the edge on would lead to the lesser ones once more often.
def edge_of(base, count):
    if count <= 0:
        raise NoDraw("there is nothing below a count of 0 or less")
    return base - base % count


def fair(numbers, base, count):
    edge = edge_of(base, count)
    for looked_at, number in enumerate(numbers, start=1):
        if number < edge:
            return (looked_at, number % count)
    raise NoDraw("none of the numbers is below the edge")


# As if drawn one after the other, each from what the ones ahead left of the list.
def all_fair(numbers, base, count):
    edge = edge_of(base, count)
    return [number % count for number in numbers if number < edge]
