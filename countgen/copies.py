"""Copies: a value of one's own, the lists within it too."""


def copied(value):
    if isinstance(value, list):
        return [copied(thing) for thing in value]
    if isinstance(value, tuple):
        return tuple([copied(thing) for thing in value])
    return value
