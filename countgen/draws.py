"""Draws: a number drawn without favour out of a list of numbers."""

from countgen.errors import NoDraw


def fair(numbers, base, count):
    if count <= 0:
        raise NoDraw("there is nothing below a count of 0 or less")
    # Numbers from the edge on would lead to the lesser ones once more often.
    edge = base - base % count
    for looked_at, number in enumerate(numbers, start=1):
        if number < edge:
            return (looked_at, number % count)
    raise NoDraw("none of the numbers is below the edge")
